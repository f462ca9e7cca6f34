/- Proved here: what the law's same answers for two lists of numbers: true where they are alike. · Proved here: what the law's equal answers for two registries told: true where they are alike. -/
import Derived.Test.YtcfjhbcpjpgodaaDoorBase
import Derived.BigQuiet
import Derived.WalkSmall
import Derived.Test.YtcfjhbcpjpgodaaDoorJ21
namespace Go.Proofs.YtcfjhbcpjpgodaaDoor
open Go.RowKit

set_option maxRecDepth 100000 in
set_option maxHeartbeats 3200000 in
theorem same_any (a b : Nat → Int) (p q : Option Addr) (n m cap cap' : Nat) (w : World) (hn : n ≤ maxLen) (ha : Lies w w.heap.size p n (fun i => .int .i64 (a i))) (hb : Lies w w.heap.size q m (fun i => .int .i64 (b i))) :
    Calls Tryd.prog 24 #[.slice p n cap, .slice q m cap'] w fun e w' => (∃ o, e = .returned (.bool o) ∧ (n = m → (∀ i, i < n → a i = b i) → o = true)) ∧ Below w.heap.size w w' := by
  have HA := hide ha
  have HB := hide hb
  have hmx : n ≤ 9223372036854775807 := by unfold maxLen at hn; omega
  clear ha hb hn
  by_cases hnm : n = m
  · subst hnm
    go_enter Tryd.func24, Tryd.ntmps24
    go_wp2
    go_loopw [5] (fun i wr => ∃ k : Nat, k ≤ n ∧ i = .int .i64 k ∧ Below w.heap.size w wr) (fun i _ => n - (intOf i).toNat)
    case atStart => exact ⟨0, Nat.zero_le _, rfl, Below.refl _ _⟩
    case round =>
      obtain ⟨k, hk, rfl, hbw⟩ := hrel
      have HBW := hide hbw
      clear hbw
      by_cases hkn : k = n
      · subst hkn
        go_wp2
        go_ret
        exact ⟨⟨true, rfl, fun _ _ => rfl⟩, HBW.out⟩
      · have hlt : k < n := by omega
        have hlt2 : (k : Int) < n := by omega
        obtain ⟨b1, o1, rfl, hb1, hc1⟩ := HA.out k hlt
        obtain ⟨b2, o2, rfl, hb2, hc2⟩ := HB.out k hlt
        have hr1 : wr.cell? ⟨b1, o1 + k, none⟩ = some (.int .i64 (a k)) := (HBW.out.cell (p := ⟨b1, o1 + k, none⟩) (by exact hb1)).trans hc1
        have hr2 : wr.cell? ⟨b2, o2 + k, none⟩ = some (.int .i64 (b k)) := (HBW.out.cell (p := ⟨b2, o2 + k, none⟩) (by exact hb2)).trans hc2
        clear hc1 hc2 hkn
        by_cases he : a k = b k
        · have heb : (a k == b k) = true := by simpa using he
          clear he
          go_wp2_with fail
          go_quiet (fail)
          all_goals go_wp2
          go_roundw
          case rel => exact ⟨k + 1, by omega, by go_num, below_drewN HBW.out _⟩
          case measure => simp [intOf]; omega
        · have heb : (a k == b k) = false := by simpa using he
          have HN := hide he
          clear he
          go_wp2_with fail
          go_quiet (fail)
          all_goals go_wp2
          go_ret
          exact ⟨⟨false, rfl, fun _ h => absurd (h k hlt) HN.out⟩, below_drewN HBW.out _⟩
  · have hne : ¬ ((n : Int) = m) := by omega
    have HN := hide hnm
    clear hnm
    go_enter Tryd.func24, Tryd.ntmps24
    go_wp2
    go_ret
    exact ⟨⟨false, rfl, fun h => absurd h HN.out⟩, Below.refl _ _⟩

end Go.Proofs.YtcfjhbcpjpgodaaDoor
namespace Go.Proofs.YtcfjhbcpjpgodaaDoor
open Go.RowKit

set_option maxRecDepth 100000 in
set_option maxHeartbeats 3200000 in
theorem equal_any (a b ra rb : Nat → Int) (p q rp rq : Option Addr) (n m rn rm c1 c2 c3 c4 : Nat) (s t : ByteArray) (w : World) (hn : n ≤ maxLen) (hrn : rn ≤ maxLen)
    (ha : Lies w w.heap.size p n (fun i => .int .i64 (a i))) (hb : Lies w w.heap.size q m (fun i => .int .i64 (b i)))
    (hra : Lies w w.heap.size rp rn (fun i => .int .i64 (ra i))) (hrb : Lies w w.heap.size rq rm (fun i => .int .i64 (rb i))) :
    Calls Tryd.prog 18 #[.agg #[.slice p n c1, .string s, .slice rp rn c2], .agg #[.slice q m c3, .string t, .slice rq rm c4]] w fun e w' =>
      (∃ o, e = .returned (.bool o) ∧ (n = m → (∀ i, i < n → a i = b i) → rn = rm → (∀ i, i < rn → ra i = rb i) → s = t → o = true)) ∧ Below w.heap.size w w' := by
  have HA := hide ha
  have HB := hide hb
  have HRA := hide hra
  have HRB := hide hrb
  have HN := hide hn
  have HRN := hide hrn
  clear ha hb hra hrb hn hrn
  have HW : ∀ o1 o2, Hid (Below w.heap.size w ((w.alloc o1).alloc o2)) := fun o1 o2 => ((Below.refl _ w).alloc (Nat.le_refl _) _).alloc (by simp) _
  have hr0 : ∀ o1 o2 j, (((w.alloc o1).alloc o2)).cell? ⟨w.heap.size, j, none⟩ = (w.alloc o1).cell? ⟨w.heap.size, j, none⟩ := fun o1 o2 j => by
    exact World.cell?_of_block (by show ((w.alloc o1).alloc o2).heap[w.heap.size]? = (w.alloc o1).heap[w.heap.size]?; exact Below.heap_alloc (w.alloc o1) o2 w.heap.size (by simp))
  have hr1 : ∀ o1 C j, (((w.alloc o1).alloc (.cells C 48))).cell? ⟨w.heap.size + 1, j, none⟩ = C[j]? := fun o1 C j => by
    have h : ((w.alloc o1).alloc (.cells C 48)).heap[w.heap.size + 1]? = some (.cells C 48) := by
      have := heap_alloc_new (w.alloc o1) (.cells C 48)
      simpa using this
    exact cell_of_row _ _ j _ _ _ h
  go_enter Tryd.func18, Tryd.ntmps18
  go_wp2_with fail
  refine (same_any a b p q n m c1 c3 _ HN.out ((HA.out.below (HW _ _).out).more (HW _ _).out.size) ((HB.out.below (HW _ _).out).more (HW _ _).out.size)).mono ?_
  rintro e w1 ⟨⟨o1, rfl, h1⟩, hb1⟩
  have e01 : w1.cell? ⟨w.heap.size, 1, none⟩ = some (.string s) := (hb1.cell (p := ⟨w.heap.size, 1, none⟩) (by show w.heap.size < _; simp; omega)).trans ((hr0 _ _ _).trans (cell_of_row _ _ 1 _ _ _ (heap_alloc_new w _)))
  have e02 : w1.cell? ⟨w.heap.size, 2, none⟩ = some (.slice rp rn c2) := (hb1.cell (p := ⟨w.heap.size, 2, none⟩) (by show w.heap.size < _; simp; omega)).trans ((hr0 _ _ _).trans (cell_of_row _ _ 2 _ _ _ (heap_alloc_new w _)))
  have e11 : w1.cell? ⟨w.heap.size + 1, 1, none⟩ = some (.string t) := (hb1.cell (p := ⟨w.heap.size + 1, 1, none⟩) (by show w.heap.size + 1 < _; simp)).trans (hr1 _ _ _)
  have e12 : w1.cell? ⟨w.heap.size + 1, 2, none⟩ = some (.slice rq rm c4) := (hb1.cell (p := ⟨w.heap.size + 1, 2, none⟩) (by show w.heap.size + 1 < _; simp)).trans (hr1 _ _ _)
  have HW1 : Hid (Below w.heap.size w w1) := (HW _ _).out.trans (hb1.mono (HW _ _).out.size)
  have hsz : w.heap.size + 1 + 1 ≤ w1.heap.size := by have := hb1.size; simpa using this
  have H1 := hide h1
  clear hb1 HW hr0 hr1 h1
  go_wp2_with fail
  refine (same_any ra rb rp rq rn rm c2 c4 w1 HRN.out ((HRA.out.below HW1.out).more HW1.out.size) ((HRB.out.below HW1.out).more HW1.out.size)).mono ?_
  rintro e w2 ⟨⟨o2, rfl, h2⟩, hb2⟩
  have f01 : w2.cell? ⟨w.heap.size, 1, none⟩ = some (.string s) := (hb2.cell (p := ⟨w.heap.size, 1, none⟩) (by show w.heap.size < _; omega)).trans e01
  have f11 : w2.cell? ⟨w.heap.size + 1, 1, none⟩ = some (.string t) := (hb2.cell (p := ⟨w.heap.size + 1, 1, none⟩) (by show w.heap.size + 1 < _; omega)).trans e11
  have HW2 : Hid (Below w.heap.size w w2) := HW1.out.trans (hb2.mono HW1.out.size)
  have H2 := hide h2
  obtain ⟨c, hc⟩ : ∃ c, c = (s.toList == t.toList) := ⟨_, rfl⟩
  have hc' := hc.symm
  have HC := hide hc
  clear hb2 h2 e01 e02 e11 e12 hc
  cases o1
  · go_wp2
    go_ret
    exact ⟨⟨false, rfl, fun g1 g2 _ _ _ => H1.out g1 g2⟩, HW2.out⟩
  · cases o2
    · go_wp2
      go_ret
      exact ⟨⟨false, rfl, fun _ _ g1 g2 _ => H2.out g1 g2⟩, HW2.out⟩
    · go_wp2
      go_ret
      exact ⟨⟨c, rfl, fun _ _ _ _ g => by rw [HC.out, g]; simp⟩, HW2.out⟩

end Go.Proofs.YtcfjhbcpjpgodaaDoor
