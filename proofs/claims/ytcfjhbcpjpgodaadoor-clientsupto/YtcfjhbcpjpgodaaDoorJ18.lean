/- Proved here: what the document's registry answers for the power of all, and what letter and digit answer at every byte. · Proved here: what the document's Form answers at every text. · Proved here: plain facts on how a text is cut at its commas. · Proved here: what the document's Split answers at every text. -/
import Derived.Test.YtcfjhbcpjpgodaaDoorReg0
import Derived.Laws.Strings
import Derived.Lib.Strings
import Derived.OwnWalk
namespace Go.Proofs.YtcfjhbcpjpgodaaDoor
open Go.RowKit

theorem ret_i64 {a b : Int} (h : a = b) : Ending.returned (.int .i64 a) = .returned (.int .i64 b) := by rw [h]

set_option maxHeartbeats 400000 in
theorem refTotal (x : Nat → Int) (w : World) (hx : ∀ i, i < 8 → 0 ≤ x i ∧ x i ≤ 9) :
    Calls Tryd.prog 49 #[.agg (regA x)] w fun e w' => e = .returned (.int .i64 (sumTo x 8)) ∧ Below w.heap.size w w' := by
  have HX := hide hx
  clear hx
  go_enter Tryd.func49, Tryd.ntmps49
  go_wp2
  go_loop [3, 4] (fun n i => ∃ k : Nat, k ≤ 8 ∧ i = .int .i64 k ∧ n = .int .i64 (sumTo x k)) (fun _ i => 8 - (intOf i).toNat)
  case atStart => exact ⟨0, by omega, rfl, rfl⟩
  case round =>
    obtain ⟨k, hk, rfl, rfl⟩ := hrel
    by_cases hlt : k < 8
    · have hg := regA_get x k (by omega)
      have hb := sumTo_bound x k (fun i hi => HX.out i (by omega))
      have hxk := HX.out k hlt
      have hk2 : (k : Int) < 8 := by omega
      go_wp2
      go_round
      case rel => exact ⟨k + 1, by omega, by go_num, rfl⟩
      case measure => simp [intOf]; omega
    · obtain rfl : k = 8 := by omega
      go_wp2
      go_ret
      exact ⟨rfl, (Below.refl _ _).alloc (Nat.le_refl _) _⟩

/-- A name's number, or -1. -/
def letN (c : Int) : Int := if 97 ≤ c ∧ c ≤ 122 then c - 97 else -1
/-- A digit's number, or -1. -/
def digN (c : Int) : Int := if 48 ≤ c ∧ c ≤ 57 then c - 48 else -1

theorem letter_any (c : Int) (w : World) (h0 : 0 ≤ c) (h1 : c ≤ 255) :
    Calls Tryd.prog 74 #[.int .u8 c] w fun e w' => e = .returned (.int .i64 (letN c)) ∧ w' = w := by
  by_cases ha : c < 97
  · go_enter Tryd.func74, Tryd.ntmps74
    go_wp2
    go_ret
    exact ⟨ret_i64 (by unfold letN; rw [if_neg (by omega)]), rfl⟩
  · by_cases hb : 122 < c
    · go_enter Tryd.func74, Tryd.ntmps74
      go_wp2
      go_ret
      exact ⟨ret_i64 (by unfold letN; rw [if_neg (by omega)]), rfl⟩
    · go_enter Tryd.func74, Tryd.ntmps74
      go_wp2
      go_ret
      exact ⟨ret_i64 (by unfold letN; rw [if_pos (by omega)]), rfl⟩

theorem digit_any (c : Int) (w : World) (h0 : 0 ≤ c) (h1 : c ≤ 255) :
    Calls Tryd.prog 73 #[.int .u8 c] w fun e w' => e = .returned (.int .i64 (digN c)) ∧ w' = w := by
  by_cases ha : c < 48
  · go_enter Tryd.func73, Tryd.ntmps73
    go_wp2
    go_ret
    exact ⟨ret_i64 (by unfold digN; rw [if_neg (by omega)]), rfl⟩
  · by_cases hb : 57 < c
    · go_enter Tryd.func73, Tryd.ntmps73
      go_wp2
      go_ret
      exact ⟨ret_i64 (by unfold digN; rw [if_neg (by omega)]), rfl⟩
    · go_enter Tryd.func73, Tryd.ntmps73
      go_wp2
      go_ret
      exact ⟨ret_i64 (by unfold digN; rw [if_pos (by omega)]), rfl⟩

end Go.Proofs.YtcfjhbcpjpgodaaDoor
namespace Go.Proofs.YtcfjhbcpjpgodaaDoor
open Go.RowKit

/-- Has a text of n bytes, these the first, the form of a record? -/
def formN (n : Nat) (c0 c1 c2 : Int) : Bool :=
  decide ((n = 2 ∧ c0 = 108 ∧ 97 ≤ c1 ∧ c1 ≤ 122) ∨ (n = 3 ∧ (c0 = 106 ∨ c0 = 114) ∧ 97 ≤ c1 ∧ c1 ≤ 122 ∧ 49 ≤ c2 ∧ c2 ≤ 57) ∨ (n = 3 ∧ c0 = 118 ∧ 48 ≤ c1 ∧ c1 ≤ 55 ∧ 48 ≤ c2 ∧ c2 ≤ 57))
def formB (t : ByteArray) : Bool := formN t.size (byt t 0) (byt t 1) (byt t 2)

theorem letN_yes {c : Int} (h : 97 ≤ c ∧ c ≤ 122) : letN c = c - 97 := by unfold letN; rw [if_pos h]
theorem letN_no {c : Int} (h : ¬ (97 ≤ c ∧ c ≤ 122)) : letN c = -1 := by unfold letN; rw [if_neg h]
theorem digN_yes {c : Int} (h : 48 ≤ c ∧ c ≤ 57) : digN c = c - 48 := by unfold digN; rw [if_pos h]
theorem digN_no {c : Int} (h : ¬ (48 ≤ c ∧ c ≤ 57)) : digN c = -1 := by unfold digN; rw [if_neg h]

theorem form_size (t : ByteArray) (w : World) (hs : t.size ≤ maxLen) (h : t.size < 2 ∨ 3 < t.size) (c0 c1 c2 : Int) :
    Calls Tryd.prog 72 #[.string t] w fun e w' => e = .returned (.bool (formN t.size c0 c1 c2)) ∧ w' = w := by
  unfold maxLen at hs
  by_cases h2 : (t.size : Int) < 2
  · clear h
    go_enter Tryd.func72, Tryd.ntmps72
    go_wp2
    go_ret
    exact ⟨ret_b (by simp [formN] <;> omega), rfl⟩
  · have h3 : 3 < (t.size : Int) := by omega
    clear h
    go_enter Tryd.func72, Tryd.ntmps72
    go_wp2
    go_ret
    exact ⟨ret_b (by simp [formN] <;> omega), rfl⟩

set_option maxHeartbeats 800000 in
theorem form_two (t : ByteArray) (c0 c1 c2 : Int) (w : World) (hz : t.size = 2) (b0 : 0 ≤ c0 ∧ c0 ≤ 255) (b1 : 0 ≤ c1 ∧ c1 ≤ 255) (_b2 : 0 ≤ c2 ∧ c2 ≤ 255)
    (a0 : ∀ W : World, (Instr.index 9 (.string t) (.int .i64 0)).run Tryd.prog W = .ok (.int .u8 c0) W) (a1 : ∀ W : World, (Instr.index 9 (.string t) (.int .i64 1)).run Tryd.prog W = .ok (.int .u8 c1) W) :
    Calls Tryd.prog 72 #[.string t] w fun e w' => e = .returned (.bool (formN 2 c0 c1 c2)) ∧ w' = w := by
  have z1 : ¬ (t.size : Int) < 2 := by omega
  have z2 : ¬ 3 < (t.size : Int) := by omega
  have z3 : ((t.size : Int) == 2) = true := by simp; omega
  have z4 : ((t.size : Int) == 3) = false := by simp; omega
  clear hz
  by_cases k : c0 = 108
  · subst k
    by_cases l1 : 97 ≤ c1 ∧ c1 ≤ 122
    · have e1 := letN_yes l1
      go_enter Tryd.func72, Tryd.ntmps72
      go_wp2_with (first | (go_at_call 74; refine (letter_any _ _ (by omega) (by omega)).mono ?_; rintro e w1 ⟨rfl, rfl⟩) | (go_at_call 73; refine (digit_any _ _ (by omega) (by omega)).mono ?_; rintro e w1 ⟨rfl, rfl⟩))
      go_ret
      exact ⟨ret_b (by simp [formN] <;> omega), rfl⟩
    · have e1 := letN_no l1
      go_enter Tryd.func72, Tryd.ntmps72
      go_wp2_with (first | (go_at_call 74; refine (letter_any _ _ (by omega) (by omega)).mono ?_; rintro e w1 ⟨rfl, rfl⟩) | (go_at_call 73; refine (digit_any _ _ (by omega) (by omega)).mono ?_; rintro e w1 ⟨rfl, rfl⟩))
      go_ret
      exact ⟨ret_b (by simp [formN] <;> omega), rfl⟩
  by_cases k2 : c0 = 106
  · subst k2
    go_enter Tryd.func72, Tryd.ntmps72
    go_wp2_with (first | (go_at_call 74; refine (letter_any _ _ (by omega) (by omega)).mono ?_; rintro e w1 ⟨rfl, rfl⟩) | (go_at_call 73; refine (digit_any _ _ (by omega) (by omega)).mono ?_; rintro e w1 ⟨rfl, rfl⟩))
    go_ret
    exact ⟨ret_b (by simp [formN] <;> omega), rfl⟩
  by_cases k3 : c0 = 114
  · subst k3
    go_enter Tryd.func72, Tryd.ntmps72
    go_wp2_with (first | (go_at_call 74; refine (letter_any _ _ (by omega) (by omega)).mono ?_; rintro e w1 ⟨rfl, rfl⟩) | (go_at_call 73; refine (digit_any _ _ (by omega) (by omega)).mono ?_; rintro e w1 ⟨rfl, rfl⟩))
    go_ret
    exact ⟨ret_b (by simp [formN] <;> omega), rfl⟩
  by_cases k4 : c0 = 118
  · subst k4
    go_enter Tryd.func72, Tryd.ntmps72
    go_wp2_with (first | (go_at_call 74; refine (letter_any _ _ (by omega) (by omega)).mono ?_; rintro e w1 ⟨rfl, rfl⟩) | (go_at_call 73; refine (digit_any _ _ (by omega) (by omega)).mono ?_; rintro e w1 ⟨rfl, rfl⟩))
    go_ret
    exact ⟨ret_b (by simp [formN] <;> omega), rfl⟩
  have j1 : (c0 == 108) = false := by simpa using k
  have j2 : (c0 == 106) = false := by simpa using k2
  have j3 : (c0 == 114) = false := by simpa using k3
  have j4 : (c0 == 118) = false := by simpa using k4
  go_enter Tryd.func72, Tryd.ntmps72
  go_wp2_with (first | (go_at_call 74; refine (letter_any _ _ (by omega) (by omega)).mono ?_; rintro e w1 ⟨rfl, rfl⟩) | (go_at_call 73; refine (digit_any _ _ (by omega) (by omega)).mono ?_; rintro e w1 ⟨rfl, rfl⟩))
  go_ret
  exact ⟨ret_b (by simp [formN] <;> omega), rfl⟩

set_option maxHeartbeats 800000 in
theorem form_three (t : ByteArray) (c0 c1 c2 : Int) (w : World) (hz : t.size = 3) (b0 : 0 ≤ c0 ∧ c0 ≤ 255) (b1 : 0 ≤ c1 ∧ c1 ≤ 255) (b2 : 0 ≤ c2 ∧ c2 ≤ 255)
    (a0 : ∀ W : World, (Instr.index 9 (.string t) (.int .i64 0)).run Tryd.prog W = .ok (.int .u8 c0) W) (a1 : ∀ W : World, (Instr.index 9 (.string t) (.int .i64 1)).run Tryd.prog W = .ok (.int .u8 c1) W) (a2 : ∀ W : World, (Instr.index 9 (.string t) (.int .i64 2)).run Tryd.prog W = .ok (.int .u8 c2) W) :
    Calls Tryd.prog 72 #[.string t] w fun e w' => e = .returned (.bool (formN 3 c0 c1 c2)) ∧ w' = w := by
  have z1 : ¬ (t.size : Int) < 2 := by omega
  have z2 : ¬ 3 < (t.size : Int) := by omega
  have z3 : ((t.size : Int) == 2) = false := by simp; omega
  have z4 : ((t.size : Int) == 3) = true := by simp; omega
  clear hz
  by_cases k : c0 = 108
  · subst k
    go_enter Tryd.func72, Tryd.ntmps72
    go_wp2_with (first | (go_at_call 74; refine (letter_any _ _ (by omega) (by omega)).mono ?_; rintro e w1 ⟨rfl, rfl⟩) | (go_at_call 73; refine (digit_any _ _ (by omega) (by omega)).mono ?_; rintro e w1 ⟨rfl, rfl⟩))
    go_ret
    exact ⟨ret_b (by simp [formN] <;> omega), rfl⟩
  by_cases k2 : c0 = 106
  · subst k2
    by_cases l1 : 97 ≤ c1 ∧ c1 ≤ 122
    · have e1 := letN_yes l1
      by_cases d2 : 48 ≤ c2 ∧ c2 ≤ 57
      · have e2 := digN_yes d2
        by_cases d3 : 49 ≤ c2
        · have d4 : 1 ≤ c2 - 48 := by omega
          go_enter Tryd.func72, Tryd.ntmps72
          go_wp2_with (first | (go_at_call 74; refine (letter_any _ _ (by omega) (by omega)).mono ?_; rintro e w1 ⟨rfl, rfl⟩) | (go_at_call 73; refine (digit_any _ _ (by omega) (by omega)).mono ?_; rintro e w1 ⟨rfl, rfl⟩))
          go_ret
          exact ⟨ret_b (by simp [formN] <;> omega), rfl⟩
        · have d4 : ¬ 1 ≤ c2 - 48 := by omega
          have DD : Hid (c2 < 49) := by unfold Hid; omega
          go_enter Tryd.func72, Tryd.ntmps72
          go_wp2_with (first | (go_at_call 74; refine (letter_any _ _ (by omega) (by omega)).mono ?_; rintro e w1 ⟨rfl, rfl⟩) | (go_at_call 73; refine (digit_any _ _ (by omega) (by omega)).mono ?_; rintro e w1 ⟨rfl, rfl⟩))
          go_ret
          exact ⟨ret_b (by have := DD.out; unfold Hid at this; unfold formN; rw [decide_eq_decide]; omega), rfl⟩
      · have e2 := digN_no d2
        have DD : Hid (c2 < 48 ∨ 57 < c2) := by unfold Hid; omega
        go_enter Tryd.func72, Tryd.ntmps72
        go_wp2_with (first | (go_at_call 74; refine (letter_any _ _ (by omega) (by omega)).mono ?_; rintro e w1 ⟨rfl, rfl⟩) | (go_at_call 73; refine (digit_any _ _ (by omega) (by omega)).mono ?_; rintro e w1 ⟨rfl, rfl⟩))
        go_ret
        exact ⟨ret_b (by have := DD.out; simp [formN] <;> omega), rfl⟩
    · have e1 := letN_no l1
      go_enter Tryd.func72, Tryd.ntmps72
      go_wp2_with (first | (go_at_call 74; refine (letter_any _ _ (by omega) (by omega)).mono ?_; rintro e w1 ⟨rfl, rfl⟩) | (go_at_call 73; refine (digit_any _ _ (by omega) (by omega)).mono ?_; rintro e w1 ⟨rfl, rfl⟩))
      go_ret
      exact ⟨ret_b (by simp [formN] <;> omega), rfl⟩
  by_cases k3 : c0 = 114
  · subst k3
    by_cases l1 : 97 ≤ c1 ∧ c1 ≤ 122
    · have e1 := letN_yes l1
      by_cases d2 : 48 ≤ c2 ∧ c2 ≤ 57
      · have e2 := digN_yes d2
        by_cases d3 : 49 ≤ c2
        · have d4 : 1 ≤ c2 - 48 := by omega
          go_enter Tryd.func72, Tryd.ntmps72
          go_wp2_with (first | (go_at_call 74; refine (letter_any _ _ (by omega) (by omega)).mono ?_; rintro e w1 ⟨rfl, rfl⟩) | (go_at_call 73; refine (digit_any _ _ (by omega) (by omega)).mono ?_; rintro e w1 ⟨rfl, rfl⟩))
          go_ret
          exact ⟨ret_b (by simp [formN] <;> omega), rfl⟩
        · have d4 : ¬ 1 ≤ c2 - 48 := by omega
          have DD : Hid (c2 < 49) := by unfold Hid; omega
          go_enter Tryd.func72, Tryd.ntmps72
          go_wp2_with (first | (go_at_call 74; refine (letter_any _ _ (by omega) (by omega)).mono ?_; rintro e w1 ⟨rfl, rfl⟩) | (go_at_call 73; refine (digit_any _ _ (by omega) (by omega)).mono ?_; rintro e w1 ⟨rfl, rfl⟩))
          go_ret
          exact ⟨ret_b (by have := DD.out; unfold Hid at this; unfold formN; rw [decide_eq_decide]; omega), rfl⟩
      · have e2 := digN_no d2
        have DD : Hid (c2 < 48 ∨ 57 < c2) := by unfold Hid; omega
        go_enter Tryd.func72, Tryd.ntmps72
        go_wp2_with (first | (go_at_call 74; refine (letter_any _ _ (by omega) (by omega)).mono ?_; rintro e w1 ⟨rfl, rfl⟩) | (go_at_call 73; refine (digit_any _ _ (by omega) (by omega)).mono ?_; rintro e w1 ⟨rfl, rfl⟩))
        go_ret
        exact ⟨ret_b (by have := DD.out; simp [formN] <;> omega), rfl⟩
    · have e1 := letN_no l1
      go_enter Tryd.func72, Tryd.ntmps72
      go_wp2_with (first | (go_at_call 74; refine (letter_any _ _ (by omega) (by omega)).mono ?_; rintro e w1 ⟨rfl, rfl⟩) | (go_at_call 73; refine (digit_any _ _ (by omega) (by omega)).mono ?_; rintro e w1 ⟨rfl, rfl⟩))
      go_ret
      exact ⟨ret_b (by simp [formN] <;> omega), rfl⟩
  by_cases k4 : c0 = 118
  · subst k4
    by_cases l1 : 48 ≤ c1 ∧ c1 ≤ 57
    · have e1 := digN_yes l1
      by_cases l2 : c1 ≤ 55
      · have l3 : c1 - 48 < 8 := by omega
        by_cases d2 : 48 ≤ c2 ∧ c2 ≤ 57
        · have e2 := digN_yes d2
          go_enter Tryd.func72, Tryd.ntmps72
          go_wp2_with (first | (go_at_call 74; refine (letter_any _ _ (by omega) (by omega)).mono ?_; rintro e w1 ⟨rfl, rfl⟩) | (go_at_call 73; refine (digit_any _ _ (by omega) (by omega)).mono ?_; rintro e w1 ⟨rfl, rfl⟩))
          go_ret
          exact ⟨ret_b (by simp [formN] <;> omega), rfl⟩
        · have e2 := digN_no d2
          have DD : Hid (c2 < 48 ∨ 57 < c2) := by unfold Hid; omega
          go_enter Tryd.func72, Tryd.ntmps72
          go_wp2_with (first | (go_at_call 74; refine (letter_any _ _ (by omega) (by omega)).mono ?_; rintro e w1 ⟨rfl, rfl⟩) | (go_at_call 73; refine (digit_any _ _ (by omega) (by omega)).mono ?_; rintro e w1 ⟨rfl, rfl⟩))
          go_ret
          exact ⟨ret_b (by have := DD.out; simp [formN] <;> omega), rfl⟩
      · have l3 : ¬ c1 - 48 < 8 := by omega
        go_enter Tryd.func72, Tryd.ntmps72
        go_wp2_with (first | (go_at_call 74; refine (letter_any _ _ (by omega) (by omega)).mono ?_; rintro e w1 ⟨rfl, rfl⟩) | (go_at_call 73; refine (digit_any _ _ (by omega) (by omega)).mono ?_; rintro e w1 ⟨rfl, rfl⟩))
        go_ret
        exact ⟨ret_b (by simp [formN] <;> omega), rfl⟩
    · have e1 := digN_no l1
      go_enter Tryd.func72, Tryd.ntmps72
      go_wp2_with (first | (go_at_call 74; refine (letter_any _ _ (by omega) (by omega)).mono ?_; rintro e w1 ⟨rfl, rfl⟩) | (go_at_call 73; refine (digit_any _ _ (by omega) (by omega)).mono ?_; rintro e w1 ⟨rfl, rfl⟩))
      go_ret
      exact ⟨ret_b (by simp [formN] <;> omega), rfl⟩
  have j1 : (c0 == 108) = false := by simpa using k
  have j2 : (c0 == 106) = false := by simpa using k2
  have j3 : (c0 == 114) = false := by simpa using k3
  have j4 : (c0 == 118) = false := by simpa using k4
  go_enter Tryd.func72, Tryd.ntmps72
  go_wp2_with (first | (go_at_call 74; refine (letter_any _ _ (by omega) (by omega)).mono ?_; rintro e w1 ⟨rfl, rfl⟩) | (go_at_call 73; refine (digit_any _ _ (by omega) (by omega)).mono ?_; rintro e w1 ⟨rfl, rfl⟩))
  go_ret
  exact ⟨ret_b (by simp [formN] <;> omega), rfl⟩

/-- The document's Form, at every text. -/
theorem form_any (t : ByteArray) (w : World) (hs : t.size ≤ maxLen) :
    Calls Tryd.prog 72 #[.string t] w fun e w' => e = .returned (.bool (formB t)) ∧ w' = w := by
  by_cases h : t.size < 2 ∨ 3 < t.size
  · exact form_size t w hs h _ _ _
  · by_cases h2 : t.size = 2
    · have := form_two t (byt t 0) (byt t 1) (byt t 2) w h2 (byt_bd _ _) (byt_bd _ _) (byt_bd _ _) (index_byt t 0 (by omega)) (index_byt t 1 (by omega))
      unfold formB
      rw [h2]
      exact this
    · have h3 : t.size = 3 := by omega
      have := form_three t (byt t 0) (byt t 1) (byt t 2) w h3 (byt_bd _ _) (byt_bd _ _) (byt_bd _ _) (index_byt t 0 (by omega)) (index_byt t 1 (by omega)) (index_byt t 2 (by omega))
      unfold formB
      rw [h3]
      exact this

end Go.Proofs.YtcfjhbcpjpgodaaDoor
namespace Go.Proofs.YtcfjhbcpjpgodaaDoor
open Go.RowKit

/-- The pieces of a text from i on, the first begun at fr; n steps at the most. -/
def cutsN (b : ByteArray) : Nat → Nat → Nat → List ByteArray
  | 0, _, _ => []
  | n + 1, fr, i => if i < b.size then (if byt b i = 44 then b.extract fr i :: cutsN b n (i + 1) (i + 1) else cutsN b n fr (i + 1)) else if i = b.size then [b.extract fr i] else []
/-- The pieces of a text from i on, the first begun at fr. -/
def cuts (b : ByteArray) (fr i : Nat) : List ByteArray := cutsN b (b.size + 1 - i) fr i

theorem cuts_go (b : ByteArray) (fr i : Nat) (h : i < b.size) (h2 : byt b i ≠ 44) : cuts b fr i = cuts b fr (i + 1) := by
  unfold cuts
  rw [show b.size + 1 - i = (b.size + 1 - (i + 1)) + 1 by omega, cutsN, if_pos h, if_neg h2]
theorem cuts_at (b : ByteArray) (fr i : Nat) (h : i < b.size) (h2 : byt b i = 44) : cuts b fr i = b.extract fr i :: cuts b (i + 1) (i + 1) := by
  unfold cuts
  rw [show b.size + 1 - i = (b.size + 1 - (i + 1)) + 1 by omega, cutsN, if_pos h, if_pos h2]
theorem cuts_out (b : ByteArray) (fr i : Nat) (h : b.size < i) : cuts b fr i = [] := by
  unfold cuts
  rw [show b.size + 1 - i = 0 by omega, cutsN]
theorem cuts_end (b : ByteArray) (fr : Nat) : cuts b fr b.size = b.extract fr b.size :: cuts b (b.size + 1) (b.size + 1) := by
  rw [cuts_out b _ (b.size + 1) (by omega)]
  unfold cuts
  rw [show b.size + 1 - b.size = 0 + 1 by omega, cutsN, if_neg (by omega), if_pos rfl]

theorem byt_piece (b : ByteArray) (fr i j : Nat) (h : fr + j < i) : byt (b.extract fr i) j = byt b (fr + j) := by
  unfold byt
  rw [Lib.extract_data]
  rw [List.getD_eq_getElem?_getD, List.getD_eq_getElem?_getD, List.getElem?_take, if_pos (by omega), List.getElem?_drop]

theorem size_piece (b : ByteArray) (fr i : Nat) (h : i ≤ b.size) : (b.extract fr i).size = i - fr := by
  simp [ByteArray.size_extract]; omega

/-- How many of the records vote on a power. -/
def votes : List ByteArray → Nat
  | [] => 0
  | t :: l => votes l + if byt t 0 = 118 then 1 else 0

theorem votes_append (a : List ByteArray) (t : ByteArray) : votes (a ++ [t]) = votes a + if byt t 0 = 118 then 1 else 0 := by
  induction a with
  | nil => simp [votes]
  | cons x l ih => simp only [List.cons_append, votes, ih]; omega
theorem votes_le (a : List ByteArray) : votes a ≤ a.length := by
  induction a with
  | nil => simp [votes]
  | cons x l ih => simp only [votes, List.length_cons]; split <;> omega

/-- The records of a block, and has it the form of one? -/
def splitR (b : ByteArray) : List ByteArray × Bool :=
  if b.size = 0 then ([], true) else if (cuts b 0 0).all formB then (cuts b 0 0, decide ((cuts b 0 0).length ≤ 3) && decide (votes (cuts b 0 0) < 2)) else ([], false)

theorem splitR_bad (b : ByteArray) (done rest : List ByteArray) (t : ByteArray) (hb : b.size ≠ 0) (h : cuts b 0 0 = done ++ t :: rest) (hf : formB t = false) : splitR b = ([], false) := by
  unfold splitR
  rw [if_neg hb, if_neg (by rw [h]; simp [hf])]
theorem splitR_good (b : ByteArray) (done : List ByteArray) (hb : b.size ≠ 0) (h : cuts b 0 0 = done) (hf : done.all formB = true) : splitR b = (done, decide (done.length ≤ 3) && decide (votes done < 2)) := by
  unfold splitR
  rw [if_neg hb, h, if_pos hf]

end Go.Proofs.YtcfjhbcpjpgodaaDoor
namespace Go.Proofs.YtcfjhbcpjpgodaaDoor
open Go.RowKit

theorem not_nil_text {b : ByteArray} (h : ¬ b.size = 0) : (b.toList == []) = false := by
  apply Bool.eq_false_iff.2
  intro e
  have e1 : b.toList = [] := by simpa using e
  have e2 : b.toList.length = b.size := by rw [ByteArray.toList_eq]; simp
  rw [e1] at e2
  exact h e2.symm

set_option maxRecDepth 100000 in
set_option maxHeartbeats 3200000 in
theorem split_any (b : ByteArray) (w : World) (hs : b.size < 4294967281) :
    Calls Tryd.prog 63 #[.string b] w fun e w' => ∃ v, e = .returned (.tuple #[v, .bool (splitR b).2]) ∧ w'.ownsRow w.heap.size 9 1 v (splitR b).1.length ((splitR b).1.map .string) ∧ Below w.heap.size w w' := by
  by_cases hb0 : b.size = 0
  · have e0 : b = ByteArray.empty := by
      apply ByteArray.ext
      exact Array.eq_empty_of_size_eq_zero hb0
    subst e0
    go_enter Tryd.func63, Tryd.ntmps63
    go_wp2
    go_ret2
    exact ⟨.slice none 0 0, rfl, World.ownsRow_nil _ _ _ _, Below.refl _ _⟩
  · have hne := not_nil_text hb0
    obtain ⟨i9, hi, hz0, hz1, hz2⟩ := info_parts Tryd.infoString
    go_enter Tryd.func63, Tryd.ntmps63
    go_wp2
    clear hne
    go_loopw [4, 5, 6, 7] (fun l fr vt i wr => ∃ (done : List ByteArray) (f k : Nat), f ≤ k ∧ k ≤ b.size + 1 ∧ done.length ≤ f ∧ cuts b 0 0 = done ++ cuts b f k ∧ done.all formB = true ∧ fr = .int .i64 f ∧ i = .int .i64 k ∧ vt = .int .i64 (votes done : Nat) ∧ wr.ownsRow w.heap.size 9 1 l done.length (done.map .string) ∧ Below w.heap.size w wr) (fun _ _ _ i _ => b.size + 1 - (intOf i).toNat)
    case atStart => exact ⟨[], 0, 0, by omega, by omega, by simp, rfl, rfl, rfl, rfl, rfl, World.ownsRow_nil _ _ _ _, Below.refl _ _⟩
    case round =>
      obtain ⟨done, f, k, hfk, hk, hdl, hc, hfd, rfl, rfl, rfl, ho, hbl⟩ := hrel
      have HC := hide hc
      have HF := hide hfd
      have HO := hide ho
      have HB := hide hbl
      clear hc hfd ho hbl
      by_cases h1 : k < b.size
      · have hki : (k : Int) < b.size := by omega
        have ik := index_byt b k h1
        by_cases h2 : byt b k = 44
        · have HCT := hide (cuts_at b f k h1 h2)
          rw [h2] at ik
          clear h2
          obtain ⟨t, ht⟩ : ∃ t, t = b.extract f k := ⟨_, rfl⟩
          have hsl : ∀ W : World, (Instr.slice 9 (.string b) (some (.int .i64 (f : Int))) (some (.int .i64 (k : Int))) none).run Tryd.prog W = .ok (.string t) W := fun W => by
            rw [run_slice_string W 9 b .i64 .i64 f k Tryd.underlying9 (by omega) (by omega) (by omega), ht]; rfl
          have HSZ := hide (show t.size = k - f by rw [ht]; exact size_piece b f k (by omega))
          have HMX : Hid (t.size ≤ maxLen) := by unfold Hid maxLen; rw [HSZ.out]; omega
          have HT := hide ht
          clear ht
          have HCT : Hid (cuts b f k = t :: cuts b (k + 1) (k + 1)) := by unfold Hid; rw [HT.out]; exact HCT.out
          by_cases hf : formB t = true
          · have hsz : f + 2 ≤ k := by
              have := of_decide_eq_true (p := _) hf
              rw [HSZ.out] at this
              omega
            have i0 := index_byt b f (by omega)
            have hbt : byt b f = byt t 0 := by rw [HT.out, byt_piece b f k 0 (by omega)]; rfl
            rw [hbt] at i0
            have HN : Hid (cuts b 0 0 = (done ++ [t]) ++ cuts b (k + 1) (k + 1)) := by unfold Hid; rw [HC.out, List.append_assoc]; exact congrArg _ HCT.out
            have HF2 : Hid ((done ++ [t]).all formB = true) := by unfold Hid; rw [List.all_append, HF.out]; simp [hf]
            have hvl := votes_le done
            clear hbt
            by_cases hv : byt t 0 = 118
            · have HV2 : Hid (votes (done ++ [t]) = votes done + 1) := by unfold Hid; rw [votes_append, if_pos hv]
              rw [hv] at i0
              clear hv
              go_wp2_with (first | (go_at_call 72; refine (form_any t _ HMX.out).mono ?_; rintro e w1 ⟨rfl, hw1⟩; have hw2 := hw1.symm; clear hw1; subst hw2; rw [hf]) | (at_builtin; refine wpList_append_own _ rfl _ _ 39 rfl w.heap.size 9 i9 (.string ByteArray.empty) 1 16 Tryd.underlying39 hi hz0 hz1 hz2 rfl (by decide) _ _ _ rfl (HO.out.alloc _) ⟨wr.heap.size, 0, none⟩ 1 1 [.string t] rfl rfl ?c1 ?c2 ?c3 ?c4 ?c5 ?_) | go_in)
              case c1 =>
                intro j u hj
                match j, hj with
                | 0, hj => simp at hj; subst hj; simp [Addr.add]
              case c2 => intro u hu; simp at hu; subst hu; rfl
              case c3 => unfold maxLen; omega
              case c4 => omega
              case c5 => have := HB.out.size; simp; omega
              intro v' w1 hown' hgrow _
              have HOW := hide hown'
              have HB2 := hide ((HB.out.alloc (by have := HB.out.size; omega) _).grown hgrow (by have := HB.out.size; simp; omega) (fun k hk => (HO.out.lt k hk).1))
              clear hown' hgrow
              go_wp2
              go_roundw
              case rel => exact ⟨done ++ [t], k + 1, k + 1, by omega, by omega, by simp; omega, HN.out, HF2.out, by go_num, by go_num, by rw [HV2.out]; go_num, by simpa using HOW.out, HB2.out⟩
              case measure => simp [intOf]; omega
            · have hvb : (byt t 0 == 118) = false := by simpa using hv
              have HV2 : Hid (votes (done ++ [t]) = votes done) := by unfold Hid; rw [votes_append, if_neg hv]; rfl
              clear hv
              go_wp2_with (first | (go_at_call 72; refine (form_any t _ HMX.out).mono ?_; rintro e w1 ⟨rfl, hw1⟩; have hw2 := hw1.symm; clear hw1; subst hw2; rw [hf]) | (at_builtin; refine wpList_append_own _ rfl _ _ 39 rfl w.heap.size 9 i9 (.string ByteArray.empty) 1 16 Tryd.underlying39 hi hz0 hz1 hz2 rfl (by decide) _ _ _ rfl (HO.out.alloc _) ⟨wr.heap.size, 0, none⟩ 1 1 [.string t] rfl rfl ?c1 ?c2 ?c3 ?c4 ?c5 ?_) | go_in)
              case c1 =>
                intro j u hj
                match j, hj with
                | 0, hj => simp at hj; subst hj; simp [Addr.add]
              case c2 => intro u hu; simp at hu; subst hu; rfl
              case c3 => unfold maxLen; omega
              case c4 => omega
              case c5 => have := HB.out.size; simp; omega
              intro v' w1 hown' hgrow _
              have HOW := hide hown'
              have HB2 := hide ((HB.out.alloc (by have := HB.out.size; omega) _).grown hgrow (by have := HB.out.size; simp; omega) (fun k hk => (HO.out.lt k hk).1))
              clear hown' hgrow
              go_wp2
              go_roundw
              case rel => exact ⟨done ++ [t], k + 1, k + 1, by omega, by omega, by simp; omega, HN.out, HF2.out, by go_num, by go_num, by rw [HV2.out], by simpa using HOW.out, HB2.out⟩
              case measure => simp [intOf]; omega
          · have hf' : formB t = false := by simpa using hf
            have HR := hide (splitR_bad b done _ t hb0 (HC.out.trans (congrArg _ HCT.out)) hf')
            clear hf
            go_wp2_with (go_at_call 72; refine (form_any t _ HMX.out).mono ?_; rintro e w1 ⟨rfl, hw1⟩; have hw2 := hw1.symm; clear hw1; subst hw2; rw [hf'])
            go_ret2
            exact ⟨.slice none 0 0, by rw [HR.out]; rfl, by rw [HR.out]; exact World.ownsRow_nil _ _ _ _, HB.out⟩
        · have h2b : (byt b k == 44) = false := by simpa using h2
          have HCT := hide (cuts_go b f k h1 h2)
          clear h2
          go_wp2
          go_roundw
          case rel => exact ⟨done, f, k + 1, by omega, by omega, hdl, by rw [← HCT.out]; exact HC.out, HF.out, rfl, by go_num, rfl, HO.out, HB.out⟩
          case measure => simp [intOf]; omega
      · by_cases h2 : k = b.size
        · have HCT : Hid (cuts b f k = b.extract f k :: cuts b (k + 1) (k + 1)) := by unfold Hid; rw [h2]; exact cuts_end b f
          have hki : (k : Int) ≤ b.size := by omega
          have hkj : ¬ (k : Int) < b.size := by omega
          have hkl : k ≤ b.size := by omega
          have hkm : b.size ≤ k := by omega
          clear h2
          obtain ⟨t, ht⟩ : ∃ t, t = b.extract f k := ⟨_, rfl⟩
          have hsl : ∀ W : World, (Instr.slice 9 (.string b) (some (.int .i64 (f : Int))) (some (.int .i64 (k : Int))) none).run Tryd.prog W = .ok (.string t) W := fun W => by
            rw [run_slice_string W 9 b .i64 .i64 f k Tryd.underlying9 (by omega) (by omega) (by omega), ht]; rfl
          have HSZ := hide (show t.size = k - f by rw [ht]; exact size_piece b f k (by omega))
          have HMX : Hid (t.size ≤ maxLen) := by unfold Hid maxLen; rw [HSZ.out]; omega
          have HT := hide ht
          clear ht
          have HCT : Hid (cuts b f k = t :: cuts b (k + 1) (k + 1)) := by unfold Hid; rw [HT.out]; exact HCT.out
          by_cases hf : formB t = true
          · have hsz : f + 2 ≤ k := by
              have := of_decide_eq_true (p := _) hf
              rw [HSZ.out] at this
              omega
            have i0 := index_byt b f (by omega)
            have hbt : byt b f = byt t 0 := by rw [HT.out, byt_piece b f k 0 (by omega)]; rfl
            rw [hbt] at i0
            have HN : Hid (cuts b 0 0 = (done ++ [t]) ++ cuts b (k + 1) (k + 1)) := by unfold Hid; rw [HC.out, List.append_assoc]; exact congrArg _ HCT.out
            have HF2 : Hid ((done ++ [t]).all formB = true) := by unfold Hid; rw [List.all_append, HF.out]; simp [hf]
            have hvl := votes_le done
            clear hbt
            by_cases hv : byt t 0 = 118
            · have HV2 : Hid (votes (done ++ [t]) = votes done + 1) := by unfold Hid; rw [votes_append, if_pos hv]
              rw [hv] at i0
              clear hv
              go_wp2_with (first | (go_at_call 72; refine (form_any t _ HMX.out).mono ?_; rintro e w1 ⟨rfl, hw1⟩; have hw2 := hw1.symm; clear hw1; subst hw2; rw [hf]) | (at_builtin; refine wpList_append_own _ rfl _ _ 39 rfl w.heap.size 9 i9 (.string ByteArray.empty) 1 16 Tryd.underlying39 hi hz0 hz1 hz2 rfl (by decide) _ _ _ rfl (HO.out.alloc _) ⟨wr.heap.size, 0, none⟩ 1 1 [.string t] rfl rfl ?c1 ?c2 ?c3 ?c4 ?c5 ?_) | go_in)
              case c1 =>
                intro j u hj
                match j, hj with
                | 0, hj => simp at hj; subst hj; simp [Addr.add]
              case c2 => intro u hu; simp at hu; subst hu; rfl
              case c3 => unfold maxLen; omega
              case c4 => omega
              case c5 => have := HB.out.size; simp; omega
              intro v' w1 hown' hgrow _
              have HOW := hide hown'
              have HB2 := hide ((HB.out.alloc (by have := HB.out.size; omega) _).grown hgrow (by have := HB.out.size; simp; omega) (fun k hk => (HO.out.lt k hk).1))
              clear hown' hgrow
              go_wp2
              go_roundw
              case rel => exact ⟨done ++ [t], k + 1, k + 1, by omega, by omega, by simp; omega, HN.out, HF2.out, by go_num, by go_num, by rw [HV2.out]; go_num, by simpa using HOW.out, HB2.out⟩
              case measure => simp [intOf]; omega
            · have hvb : (byt t 0 == 118) = false := by simpa using hv
              have HV2 : Hid (votes (done ++ [t]) = votes done) := by unfold Hid; rw [votes_append, if_neg hv]; rfl
              clear hv
              go_wp2_with (first | (go_at_call 72; refine (form_any t _ HMX.out).mono ?_; rintro e w1 ⟨rfl, hw1⟩; have hw2 := hw1.symm; clear hw1; subst hw2; rw [hf]) | (at_builtin; refine wpList_append_own _ rfl _ _ 39 rfl w.heap.size 9 i9 (.string ByteArray.empty) 1 16 Tryd.underlying39 hi hz0 hz1 hz2 rfl (by decide) _ _ _ rfl (HO.out.alloc _) ⟨wr.heap.size, 0, none⟩ 1 1 [.string t] rfl rfl ?c1 ?c2 ?c3 ?c4 ?c5 ?_) | go_in)
              case c1 =>
                intro j u hj
                match j, hj with
                | 0, hj => simp at hj; subst hj; simp [Addr.add]
              case c2 => intro u hu; simp at hu; subst hu; rfl
              case c3 => unfold maxLen; omega
              case c4 => omega
              case c5 => have := HB.out.size; simp; omega
              intro v' w1 hown' hgrow _
              have HOW := hide hown'
              have HB2 := hide ((HB.out.alloc (by have := HB.out.size; omega) _).grown hgrow (by have := HB.out.size; simp; omega) (fun k hk => (HO.out.lt k hk).1))
              clear hown' hgrow
              go_wp2
              go_roundw
              case rel => exact ⟨done ++ [t], k + 1, k + 1, by omega, by omega, by simp; omega, HN.out, HF2.out, by go_num, by go_num, by rw [HV2.out], by simpa using HOW.out, HB2.out⟩
              case measure => simp [intOf]; omega
          · have hf' : formB t = false := by simpa using hf
            have HR := hide (splitR_bad b done _ t hb0 (HC.out.trans (congrArg _ HCT.out)) hf')
            clear hf
            go_wp2_with (go_at_call 72; refine (form_any t _ HMX.out).mono ?_; rintro e w1 ⟨rfl, hw1⟩; have hw2 := hw1.symm; clear hw1; subst hw2; rw [hf'])
            go_ret2
            exact ⟨.slice none 0 0, by rw [HR.out]; rfl, by rw [HR.out]; exact World.ownsRow_nil _ _ _ _, HB.out⟩
        · have hk2 : ¬ (k : Int) ≤ b.size := by omega
          have HR := hide (splitR_good b done hb0 (by rw [HC.out, cuts_out b f k (by omega), List.append_nil]) HF.out)
          rcases HO.out.2 with ⟨rfl, hn⟩ | ⟨g, cap, cur, rfl, -, -, -, -, -, -⟩
          · obtain rfl : done = [] := List.eq_nil_of_length_eq_zero hn
            go_wp2
            go_ret2
            exact ⟨_, by rw [HR.out]; rfl, by rw [HR.out]; exact HO.out, HB.out⟩
          · by_cases hl3 : done.length ≤ 3
            · have hl4 : (done.length : Int) ≤ 3 := by omega
              by_cases hv2 : votes done < 2
              · have hv3 : (votes done : Int) < 2 := by omega
                have HX : Hid ((decide (done.length ≤ 3) && decide (votes done < 2)) = true) := by unfold Hid; simp [hl3, hv2]
                go_wp2
                go_ret2
                exact ⟨_, by rw [HR.out, HX.out]; rfl, by rw [HR.out]; exact HO.out, HB.out⟩
              · have hv3 : ¬ (votes done : Int) < 2 := by omega
                have HX : Hid ((decide (done.length ≤ 3) && decide (votes done < 2)) = false) := by unfold Hid; simp [hv2]
                go_wp2
                go_ret2
                exact ⟨_, by rw [HR.out, HX.out]; rfl, by rw [HR.out]; exact HO.out, HB.out⟩
            · have hl4 : ¬ (done.length : Int) ≤ 3 := by omega
              have HX : Hid ((decide (done.length ≤ 3) && decide (votes done < 2)) = false) := by unfold Hid; simp [hl3]
              go_wp2
              go_ret2
              exact ⟨_, by rw [HR.out, HX.out]; rfl, by rw [HR.out]; exact HO.out, HB.out⟩

end Go.Proofs.YtcfjhbcpjpgodaaDoor
