/- Proved here: what the statements' function which answers at nil (0) and at one of the twelve sentinels (its number), and that it leaves all old memory as it was. -/
import Derived.Test.YtcfjhbcpjpgodaaDoorIs
import Derived.Test.YtcfjhbcpjpgodaaDoorSents
import Derived.WalkSpells
import Derived.WalkLawsBesides
namespace Go.Proofs.YtcfjhbcpjpgodaaDoor
open Go.RowKit Go.Extern.Stop Go.Stop Go.Extern

/-- errors.Is between two of the sentinels: true just at the same one. -/
theorem is_sent {es : List Addr} {w : World} (hS : Sent es w) (i j : Nat) (a b : Addr) (hi : es[i]? = some a) (hj : es[j]? = some b) (t : Bool) (ht : t = decide (i = j)) :
    Calls Tryd.prog 36 #[.iface 188 (.pointer (some a)), .iface 188 (.pointer (some b))] w fun e w' => e = .returned (.bool t) ∧ w' = w := by
  subst ht
  by_cases h : i = j
  · subst h
    rw [hi] at hj
    obtain rfl := Option.some.inj hj
    simpa using is_same a w
  · obtain ⟨ca, ta, ha⟩ := hS.blk a (List.mem_of_getElem? hi)
    obtain ⟨cb, tb, hb⟩ := hS.blk b (List.mem_of_getElem? hj)
    have hne : a ≠ b := by
      rintro rfl
      have hn := hS.nodup
      obtain ⟨hi1, hi2⟩ := List.getElem?_eq_some_iff.1 hi
      obtain ⟨hj1, hj2⟩ := List.getElem?_eq_some_iff.1 hj
      rw [List.Nodup, List.pairwise_iff_getElem] at hn
      rcases Nat.lt_or_gt_of_ne h with h' | h'
      · exact hn i j hi1 hj1 h' (hi2.trans hj2.symm)
      · exact hn j i hj1 hi1 h' (hj2.trans hi2.symm)
    simpa [h] using is_other a b ca cb ta tb w hne ha hb

/-- What the loop of which has found behind the first j of them. -/
def numAt (k j : Nat) : Int := if k < j then (k : Int) + 1 else 99

set_option maxHeartbeats 400000 in
theorem which_at (a0 a1 a2 a3 a4 a5 a6 a7 a8 a9 a10 a11 a : Addr) (k : Nat) (w : World) (hS : Sent [a0, a1, a2, a3, a4, a5, a6, a7, a8, a9, a10, a11] w) (hk : [a0, a1, a2, a3, a4, a5, a6, a7, a8, a9, a10, a11][k]? = some a) :
    Calls Tryd.prog 8 #[.iface 188 (.pointer (some a))] w fun e w' => e = .returned (.int .i64 (k + 1)) ∧ Below w.heap.size w w' := by
  have c0 := hS.cell 0 _ _ rfl rfl
  have c1 := hS.cell 1 _ _ rfl rfl
  have c2 := hS.cell 2 _ _ rfl rfl
  have c3 := hS.cell 3 _ _ rfl rfl
  have c4 := hS.cell 4 _ _ rfl rfl
  have c5 := hS.cell 5 _ _ rfl rfl
  have c6 := hS.cell 6 _ _ rfl rfl
  have c7 := hS.cell 7 _ _ rfl rfl
  have c8 := hS.cell 8 _ _ rfl rfl
  have c9 := hS.cell 9 _ _ rfl rfl
  have c10 := hS.cell 10 _ _ rfl rfl
  have c11 := hS.cell 11 _ _ rfl rfl
  have hK := hide hk
  have hS' := hide hS
  clear hk hS
  go_enter Tryd.func8, Tryd.ntmps8
  go_wp2
  go_loopw [4, 5] (fun n i wr => ∃ j : Nat, j ≤ 12 ∧ i = .int .i64 j ∧ n = .int .i64 (numAt k j) ∧ (∀ j, j < 12 → wr.cell? ⟨w.heap.size, j, none⟩ = some (.iface 188 (.pointer (some ([a0, a1, a2, a3, a4, a5, a6, a7, a8, a9, a10, a11].getD j a0))))) ∧ Below w.heap.size w wr) (fun _ i _ => 12 - (intOf i).toNat)
  case atStart =>
    refine ⟨0, by omega, rfl, rfl, ?_, (Below.refl _ _).alloc (Nat.le_refl _) _⟩
    intro j hj
    match j, hj with
    | 0, _ | 1, _ | 2, _ | 3, _ | 4, _ | 5, _ | 6, _ | 7, _ | 8, _ | 9, _ | 10, _ | 11, _ => simp
  case round =>
    obtain ⟨j, hj, rfl, hn, hcell, hb⟩ := hrel
    have hS1 := hide (hS'.out.later hb)
    by_cases hlt : j < 12
    · have hc := hcell j hlt
      have hjb : [a0, a1, a2, a3, a4, a5, a6, a7, a8, a9, a10, a11][j]? = some ([a0, a1, a2, a3, a4, a5, a6, a7, a8, a9, a10, a11].getD j a0) := by
        rw [List.getD_eq_getElem?_getD, List.getElem?_eq_getElem (by simpa using hlt)]; rfl
      generalize [a0, a1, a2, a3, a4, a5, a6, a7, a8, a9, a10, a11].getD j a0 = b at hc hjb
      have hJ := hide hjb
      have hcl := hide hcell
      clear hcell hjb
      rcases Nat.lt_trichotomy j k with hjk | hjk | hjk
      · have e1 : numAt k j = 99 := by unfold numAt; rw [if_neg (by omega)]
        have e2 : Hid (numAt k (j + 1) = 99) := by unfold Hid numAt; rw [if_neg (by omega)]
        rw [e1] at hn
        clear e1
        subst hn
        go_wp2_with (go_at_call 36; refine (is_sent hS1.out k j _ _ hK.out hJ.out false (by simp; omega)).mono ?_; rintro e w' ⟨rfl, rfl⟩)
        go_roundw
        case rel => exact ⟨j + 1, by omega, by go_num, by rw [e2.out], hcl.out, hb⟩
        case measure => simp [intOf]; omega
      · subst hjk
        have e1 : numAt j j = 99 := by unfold numAt; rw [if_neg (by omega)]
        have e2 : Hid (numAt j (j + 1) = (j : Int) + 1) := by unfold Hid numAt; rw [if_pos (by omega)]
        rw [e1] at hn
        clear e1
        subst hn
        go_wp2_with (go_at_call 36; refine (is_sent hS1.out j j _ _ hK.out hJ.out true (by simp)).mono ?_; rintro e w' ⟨rfl, rfl⟩)
        go_roundw
        case rel => exact ⟨j + 1, by omega, by go_num, by rw [e2.out], hcl.out, hb⟩
        case measure => simp [intOf]; omega
      · have e1 : numAt k j = (k : Int) + 1 := by unfold numAt; rw [if_pos (by omega)]
        have e2 : Hid (numAt k (j + 1) = (k : Int) + 1) := by unfold Hid numAt; rw [if_pos (by omega)]
        rw [e1] at hn
        clear e1
        subst hn
        go_wp2_with (go_at_call 36; refine (is_sent hS1.out k j _ _ hK.out hJ.out false (by simp; omega)).mono ?_; rintro e w' ⟨rfl, rfl⟩)
        go_roundw
        case rel => exact ⟨j + 1, by omega, by go_num, by rw [e2.out], hcl.out, hb⟩
        case measure => simp [intOf]; omega
    · have hk12 : k < 12 := by simpa using (List.getElem?_eq_some_iff.1 hK.out).1
      have e1 : numAt k j = (k : Int) + 1 := by unfold numAt; rw [if_pos (by omega)]
      rw [e1] at hn
      clear e1
      subst hn
      go_wp2
      go_ret
      exact ⟨rfl, hb⟩

theorem which_nil {es : List Addr} {w : World} (hS : Sent es w) :
    Calls Tryd.prog 8 #[.nilIface] w fun e w' => e = .returned (.int .i64 0) ∧ Below w.heap.size w w' := by
  match es, hS.len with
  | [a0, a1, a2, a3, a4, a5, a6, a7, a8, a9, a10, a11], _ =>
  have c0 := hS.cell 0 _ _ rfl rfl
  have c1 := hS.cell 1 _ _ rfl rfl
  have c2 := hS.cell 2 _ _ rfl rfl
  have c3 := hS.cell 3 _ _ rfl rfl
  have c4 := hS.cell 4 _ _ rfl rfl
  have c5 := hS.cell 5 _ _ rfl rfl
  have c6 := hS.cell 6 _ _ rfl rfl
  have c7 := hS.cell 7 _ _ rfl rfl
  have c8 := hS.cell 8 _ _ rfl rfl
  have c9 := hS.cell 9 _ _ rfl rfl
  have c10 := hS.cell 10 _ _ rfl rfl
  have c11 := hS.cell 11 _ _ rfl rfl
  clear hS
  go_enter Tryd.func8, Tryd.ntmps8
  go_wp2
  go_ret
  exact ⟨rfl, (Below.refl _ _).alloc (Nat.le_refl _) _⟩

/-- which at the sentinel with the number k + 1. -/
theorem which_sent {es : List Addr} {w : World} (hS : Sent es w) (k : Nat) (a : Addr) (hk : es[k]? = some a) :
    Calls Tryd.prog 8 #[.iface 188 (.pointer (some a))] w fun e w' => e = .returned (.int .i64 (k + 1)) ∧ Below w.heap.size w w' := by
  match es, hS.len with
  | [a0, a1, a2, a3, a4, a5, a6, a7, a8, a9, a10, a11], _ => exact which_at a0 a1 a2 a3 a4 a5 a6 a7 a8 a9 a10 a11 a k w hS hk

end Go.Proofs.YtcfjhbcpjpgodaaDoor
