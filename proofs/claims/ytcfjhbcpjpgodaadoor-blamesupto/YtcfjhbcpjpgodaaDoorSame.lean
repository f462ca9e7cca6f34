/- Proved here: what the law's same answers for two lists of numbers: true where they are alike. -/
import Derived.Test.YtcfjhbcpjpgodaaDoorBase
import Derived.BigQuiet
import Derived.WalkSmall
namespace Go.Proofs.YtcfjhbcpjpgodaaDoor
open Go.RowKit

set_option maxRecDepth 100000 in
set_option maxHeartbeats 3200000 in
theorem same_any (a b : Nat → Int) (p q : Option Addr) (n m cap cap' : Nat) (w : World) (hn : n ≤ maxLen) (ha : Lies w w.heap.size p n (fun i => .int .i64 (a i))) (hb : Lies w w.heap.size q m (fun i => .int .i64 (b i))) :
    Calls Tryd.prog 24 #[.slice p n cap, .slice q m cap'] w fun e w' => (∃ o, e = .returned (.bool o) ∧ (n = m → (∀ i, i < n → a i = b i) → o = true)) ∧ Below w.heap.size w w' := by
  have HA := hide ha
  have HB := hide hb
  have hmx : n ≤ 9223372036854775807 := by unfold maxLen at hn; omega
  clear ha hb hn
  by_cases hnm : n = m
  · subst hnm
    go_enter Tryd.func24, Tryd.ntmps24
    go_wp2
    go_loopw [5] (fun i wr => ∃ k : Nat, k ≤ n ∧ i = .int .i64 k ∧ Below w.heap.size w wr) (fun i _ => n - (intOf i).toNat)
    case atStart => exact ⟨0, Nat.zero_le _, rfl, Below.refl _ _⟩
    case round =>
      obtain ⟨k, hk, rfl, hbw⟩ := hrel
      have HBW := hide hbw
      clear hbw
      by_cases hkn : k = n
      · subst hkn
        go_wp2
        go_ret
        exact ⟨⟨true, rfl, fun _ _ => rfl⟩, HBW.out⟩
      · have hlt : k < n := by omega
        have hlt2 : (k : Int) < n := by omega
        obtain ⟨b1, o1, rfl, hb1, hc1⟩ := HA.out k hlt
        obtain ⟨b2, o2, rfl, hb2, hc2⟩ := HB.out k hlt
        have hr1 : wr.cell? ⟨b1, o1 + k, none⟩ = some (.int .i64 (a k)) := (HBW.out.cell (p := ⟨b1, o1 + k, none⟩) (by exact hb1)).trans hc1
        have hr2 : wr.cell? ⟨b2, o2 + k, none⟩ = some (.int .i64 (b k)) := (HBW.out.cell (p := ⟨b2, o2 + k, none⟩) (by exact hb2)).trans hc2
        clear hc1 hc2 hkn
        by_cases he : a k = b k
        · have heb : (a k == b k) = true := by simpa using he
          clear he
          go_wp2_with fail
          go_quiet (fail)
          all_goals go_wp2
          go_roundw
          case rel => exact ⟨k + 1, by omega, by go_num, below_drewN HBW.out _⟩
          case measure => simp [intOf]; omega
        · have heb : (a k == b k) = false := by simpa using he
          have HN := hide he
          clear he
          go_wp2_with fail
          go_quiet (fail)
          all_goals go_wp2
          go_ret
          exact ⟨⟨false, rfl, fun _ h => absurd (h k hlt) HN.out⟩, below_drewN HBW.out _⟩
  · have hne : ¬ ((n : Int) = m) := by omega
    have HN := hide hnm
    clear hnm
    go_enter Tryd.func24, Tryd.ntmps24
    go_wp2
    go_ret
    exact ⟨⟨false, rfl, fun h => absurd h HN.out⟩, Below.refl _ _⟩

end Go.Proofs.YtcfjhbcpjpgodaaDoor
