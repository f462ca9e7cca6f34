/- Proved here: the law's book says yes where all that it keeps reads as it was written. -/
import Derived.Test.YtcfjhbcpjpgodaaDoorKeepI
import Derived.BigQuiet
namespace Go.Proofs.YtcfjhbcpjpgodaaDoor
open Go.RowKit

set_option maxRecDepth 100000 in
set_option maxHeartbeats 6400000 in
theorem looks_any (bk K : Nat) (lp : Option Addr) (lc : Nat) (ge : Nat → Nat) (pp : Nat → Nat → Option Addr) (nn cc : Nat → Nat → Nat) (w : World) (hK : K ≤ 100) (hbk : bk < w.heap.size)
    (hb0 : w.cell? ⟨bk, 0, none⟩ = some (.slice lp K lc)) (hb1 : w.cell? ⟨bk, 1, none⟩ = some (.slice none 0 0))
    (hl : Lies w w.heap.size lp K (fun i => .slice (some ⟨ge i, 0, none⟩) 4 4))
    (he : ∀ i k, i < K → k < 4 → ge i < w.heap.size ∧ w.cell? ⟨ge i, k, none⟩ = some (.slice (pp i k) (nn i k) (cc i k)))
    (hm : ∀ i k, i < K → k < 4 → nn i k ≤ 1000 ∧ Lies w w.heap.size (pp i k) (nn i k) (fun _ => .int .i64 (-7000 - (i : Int)))) :
    Calls Tryd.prog 23 #[.pointer (some ⟨bk, 0, none⟩)] w fun e w' => e = .returned (.bool true) ∧ Below w.heap.size w w' := by
  have HL := hide hl
  have HE := hide he
  have HM := hide hm
  have HB0 := hide hb0
  have HB1 := hide hb1
  clear hl he hm hb0 hb1
  go_enter Tryd.func23, Tryd.ntmps23
  go_wp2
  go_loopw [3, 4, 5, 6, 7] (fun a _ _ _ _ wr => ∃ k : Nat, k ≤ 4 ∧ a = .int .i64 k ∧ Below w.heap.size w wr) (fun a _ _ _ _ _ => 4 - (intOf a).toNat)
  case atStart => exact ⟨0, by omega, rfl, Below.refl _ _⟩
  case round =>
    obtain ⟨k, hk, rfl, hb⟩ := hrel
    have HB := hide hb
    clear hb
    by_cases hk4 : k = 4
    · have hk5 : ¬ (k : Int) < 4 := by omega
      clear hk4
      go_wp2
      go_ret
      exact ⟨rfl, HB.out⟩
    · have hk5 : (k : Int) < 4 := by omega
      obtain ⟨wa, hwa⟩ : ∃ z, z = wr := ⟨_, rfl⟩
      subst hwa
      go_wp2
      go_loopw [4, 5] (fun a _ wr => ∃ i : Nat, i ≤ K ∧ a = .int .i64 i ∧ Below w.heap.size w wr) (fun a _ _ => K - (intOf a).toNat)
      case atStart => exact ⟨0, by omega, rfl, HB.out⟩
      case round =>
        clear HB
        obtain ⟨i, hi, rfl, hb⟩ := hrel
        have HB := hide hb
        have hc0 : wr.cell? ⟨bk, 0, none⟩ = some (.slice lp K lc) := (hb.cell (p := ⟨bk, 0, none⟩) (by exact hbk)).trans HB0.out
        have hc1 : wr.cell? ⟨bk, 1, none⟩ = some (.slice none 0 0) := (hb.cell (p := ⟨bk, 1, none⟩) (by exact hbk)).trans HB1.out
        clear hb
        obtain ⟨wb, hwb⟩ : ∃ z, z = wr := ⟨_, rfl⟩
        subst hwb
        by_cases hiK : i = K
        · have hi5 : ¬ (i : Int) < K := by omega
          clear hiK
          go_wp2
          go_loopw [6, 7] (fun a _ wr => a = .int .i64 0 ∧ wr = wb) (fun _ _ _ => 0)
          case atStart => exact ⟨rfl, rfl⟩
          case round =>
            obtain ⟨rfl, rfl⟩ := hrel
            go_wp2
            go_roundw
            case rel => exact ⟨k + 1, by omega, by go_num, HB.out⟩
            case measure => simp [intOf]; omega
        · have hlt : i < K := by omega
          have hi5 : (i : Int) < K := by omega
          obtain ⟨gl, ol, rfl, hgl, hcl⟩ := HL.out i hlt
          obtain ⟨hge, hce⟩ := HE.out i k hlt (by omega)
          obtain ⟨hnn, hmk⟩ := HM.out i k hlt (by omega)
          have HMK := hide hmk
          clear hmk hiK
          go_wp2
          go_loopw [5] (fun a wr => ∃ j : Nat, j ≤ nn i k ∧ a = .int .i64 j ∧ Below w.heap.size w wr) (fun a _ => nn i k - (intOf a).toNat)
          case atStart => exact ⟨0, by omega, rfl, HB.out⟩
          case round =>
            clear HB
            obtain ⟨j, hj, rfl, hb⟩ := hrel
            have HB := hide hb
            have hd0 : wr.cell? ⟨bk, 0, none⟩ = some (.slice (some ⟨gl, ol, none⟩) K lc) := (hb.cell (p := ⟨bk, 0, none⟩) (by exact hbk)).trans HB0.out
            have hd1 : wr.cell? ⟨gl, ol + i, none⟩ = some (.slice (some ⟨ge i, 0, none⟩) 4 4) := (hb.cell (p := ⟨gl, ol + i, none⟩) (by exact hgl)).trans hcl
            have hd2 : wr.cell? ⟨ge i, k, none⟩ = some (.slice (pp i k) (nn i k) (cc i k)) := (hb.cell (p := ⟨ge i, k, none⟩) (by exact hge)).trans hce
            clear hc0 hc1
            by_cases hjn : j = nn i k
            · have hj5 : ¬ (j : Int) < nn i k := by omega
              clear hjn hb
              go_wp2
              go_roundw
              case rel => exact ⟨i + 1, by omega, by go_num, HB.out⟩
              case measure => simp [intOf]; omega
            · have hj4 : j < nn i k := by omega
              have hj5 : (j : Int) < nn i k := by omega
              obtain ⟨b, o, hpp, hbb, hcb⟩ := HMK.out j hj4
              rw [hpp] at hd2
              have hd3 : wr.cell? ⟨b, o + j, none⟩ = some (.int .i64 (-7000 - (i : Int))) := (hb.cell (p := ⟨b, o + j, none⟩) (by exact hbb)).trans hcb
              clear hjn hb hcb
              go_wp2_with fail
              go_quiet (first | (go_at_call 43; refine Calls.quiet_of_same (mark_any i _ (by omega))))
              all_goals go_wp2
              go_roundw
              case rel => exact ⟨j + 1, by omega, by go_num, below_drewN HB.out _⟩
              case measure => simp [intOf]; omega

end Go.Proofs.YtcfjhbcpjpgodaaDoor
