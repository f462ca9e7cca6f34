/- Proved here: what frame of synodkeep tells: a message's frame, or nothing. · Proved here: what same of synodkeep answers for two lists of numbers: true where they are alike. -/
import Derived.Test.YtcfjhbcpjpgodaaGreatDoorJ18
import Derived.Test.YtcfjhbcpjpgodaaGreatDoorBase
import Derived.BigQuiet
import Derived.WalkSmall
namespace Go.Proofs.YtcfjhbcpjpgodaaGreatDoor
open Go.RowKit

theorem Tryz.sizeMsgK : (Tryz.prog.info? 57).map (·.size) = some 7 := by kernel_rfl

set_option maxRecDepth 100000 in
set_option maxHeartbeats 800000 in
theorem keepFrame_any (K H R F V : Int) (nl : Bool) (s : ByteArray) (b : Addr) (w : World) (hs : s.size ≤ maxLen) (hb : w.cell? ⟨2, 0, none⟩ = some (.iface 294 (.pointer (some b)))) :
    Calls Tryz.prog 43 #[.agg #[.int .i64 K, .int .i64 H, .int .i64 R, .int .i64 F, .int .i64 V, .bool nl, .string s]] w fun e w' => e = .returned (.string (encS K H R F V nl s)) ∧ Below w.heap.size w w' := by
  have HQ := hide (heap_alloc_new w (.cells #[.int .i64 K, .int .i64 H, .int .i64 R, .int .i64 F, .int .i64 V, .bool nl, .string s] 57))
  have HC := hide (synodEncode_any K H R F V nl s b (w.alloc (.cells #[.int .i64 K, .int .i64 H, .int .i64 R, .int .i64 F, .int .i64 V, .bool nl, .string s] 57)) hs (cell?_alloc_old _ hb))
  clear hs hb
  by_cases hh : hasB K H R F V nl s.size = true
  · rw [hh] at HC
    unfold formE at HC
    simp only [if_true] at HC
    go_enter Tryz.func43, Tryz.ntmps43
    go_wp2_with (first | (refine wpList_load_row rfl 57 _ rfl w.heap.size rfl 57 #[.int .i64 K, .int .i64 H, .int .i64 R, .int .i64 F, .int .i64 V, .bool nl, .string s] (0, 0) _ HQ.out Tryz.underlying57 rfl Tryz.sizeMsgK ?_) | fail)
    refine HC.out.mono ?_
    rintro e w2 ⟨rfl, hb2⟩
    have HB2 : Hid (Below w.heap.size w w2) := ((Below.refl _ w).alloc (Nat.le_refl _) _).trans (hb2.mono (by simp))
    clear hb2
    go_wp2
    go_ret
    exact ⟨rfl, HB2.out⟩
  · have hh2 : hasB K H R F V nl s.size = false := by simpa using hh
    rw [hh2] at HC
    unfold formE at HC
    simp only [Bool.false_eq_true, if_false] at HC
    rw [encS_no hh2] at HC ⊢
    go_enter Tryz.func43, Tryz.ntmps43
    go_wp2_with (first | (refine wpList_load_row rfl 57 _ rfl w.heap.size rfl 57 #[.int .i64 K, .int .i64 H, .int .i64 R, .int .i64 F, .int .i64 V, .bool nl, .string s] (0, 0) _ HQ.out Tryz.underlying57 rfl Tryz.sizeMsgK ?_) | fail)
    refine HC.out.mono ?_
    rintro e w2 ⟨rfl, hb2⟩
    have HB2 : Hid (Below w.heap.size w w2) := ((Below.refl _ w).alloc (Nat.le_refl _) _).trans (hb2.mono (by simp))
    clear hb2
    go_wp2
    go_ret
    exact ⟨rfl, HB2.out⟩

end Go.Proofs.YtcfjhbcpjpgodaaGreatDoor
namespace Go.Proofs.YtcfjhbcpjpgodaaGreatDoor
open Go.RowKit

set_option maxRecDepth 100000 in
set_option maxHeartbeats 3200000 in
theorem keepSame_any (a b : Nat → Int) (p q : Option Addr) (n m cap cap' : Nat) (w : World) (hn : n ≤ maxLen) (ha : Lies w w.heap.size p n (fun i => .int .i64 (a i))) (hb : Lies w w.heap.size q m (fun i => .int .i64 (b i))) :
    Calls Tryz.prog 47 #[.slice p n cap, .slice q m cap'] w fun e w' => (∃ o, e = .returned (.bool o) ∧ (n = m → (∀ i, i < n → a i = b i) → o = true)) ∧ Below w.heap.size w w' := by
  have HA := hide ha
  have HB := hide hb
  have hmx : n ≤ 9223372036854775807 := by unfold maxLen at hn; omega
  clear ha hb hn
  by_cases hnm : n = m
  · subst hnm
    go_enter Tryz.func47, Tryz.ntmps47
    go_wp2
    go_loopw [5] (fun i wr => ∃ k : Nat, k ≤ n ∧ i = .int .i64 k ∧ Below w.heap.size w wr) (fun i _ => n - (intOf i).toNat)
    case atStart => exact ⟨0, Nat.zero_le _, rfl, Below.refl _ _⟩
    case round =>
      obtain ⟨k, hk, rfl, hbw⟩ := hrel
      have HBW := hide hbw
      clear hbw
      by_cases hkn : k = n
      · subst hkn
        go_wp2
        go_ret
        exact ⟨⟨true, rfl, fun _ _ => rfl⟩, HBW.out⟩
      · have hlt : k < n := by omega
        have hlt2 : (k : Int) < n := by omega
        obtain ⟨b1, o1, rfl, hb1, hc1⟩ := HA.out k hlt
        obtain ⟨b2, o2, rfl, hb2, hc2⟩ := HB.out k hlt
        have hr1 : wr.cell? ⟨b1, o1 + k, none⟩ = some (.int .i64 (a k)) := (HBW.out.cell (p := ⟨b1, o1 + k, none⟩) (by exact hb1)).trans hc1
        have hr2 : wr.cell? ⟨b2, o2 + k, none⟩ = some (.int .i64 (b k)) := (HBW.out.cell (p := ⟨b2, o2 + k, none⟩) (by exact hb2)).trans hc2
        clear hc1 hc2 hkn
        by_cases he : a k = b k
        · have heb : (a k == b k) = true := by simpa using he
          clear he
          go_wp2_with fail
          go_quiet (fail)
          all_goals go_wp2
          go_roundw
          case rel => exact ⟨k + 1, by omega, by go_num, below_drewN HBW.out _⟩
          case measure => simp [intOf]; omega
        · have heb : (a k == b k) = false := by simpa using he
          have HN := hide he
          clear he
          go_wp2_with fail
          go_quiet (fail)
          all_goals go_wp2
          go_ret
          exact ⟨⟨false, rfl, fun _ h => absurd (h k hlt) HN.out⟩, below_drewN HBW.out _⟩
  · have hne : ¬ ((n : Int) = m) := by omega
    have HN := hide hnm
    clear hnm
    go_enter Tryz.func47, Tryz.ntmps47
    go_wp2
    go_ret
    exact ⟨⟨false, rfl, fun h => absurd h HN.out⟩, Below.refl _ _⟩

end Go.Proofs.YtcfjhbcpjpgodaaGreatDoor
