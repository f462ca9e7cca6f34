/- Proved here: what the document's Form answers at every text. -/
import Derived.Test.YtcfjhbcpjpgodaaDoorRefTotal
import Derived.Laws.Strings
namespace Go.Proofs.YtcfjhbcpjpgodaaDoor
open Go.RowKit

/-- Has a text of n bytes, these the first, the form of a record? -/
def formN (n : Nat) (c0 c1 c2 : Int) : Bool :=
  decide ((n = 2 ∧ c0 = 108 ∧ 97 ≤ c1 ∧ c1 ≤ 122) ∨ (n = 3 ∧ (c0 = 106 ∨ c0 = 114) ∧ 97 ≤ c1 ∧ c1 ≤ 122 ∧ 49 ≤ c2 ∧ c2 ≤ 57) ∨ (n = 3 ∧ c0 = 118 ∧ 48 ≤ c1 ∧ c1 ≤ 55 ∧ 48 ≤ c2 ∧ c2 ≤ 57))
def formB (t : ByteArray) : Bool := formN t.size (byt t 0) (byt t 1) (byt t 2)

theorem letN_yes {c : Int} (h : 97 ≤ c ∧ c ≤ 122) : letN c = c - 97 := by unfold letN; rw [if_pos h]
theorem letN_no {c : Int} (h : ¬ (97 ≤ c ∧ c ≤ 122)) : letN c = -1 := by unfold letN; rw [if_neg h]
theorem digN_yes {c : Int} (h : 48 ≤ c ∧ c ≤ 57) : digN c = c - 48 := by unfold digN; rw [if_pos h]
theorem digN_no {c : Int} (h : ¬ (48 ≤ c ∧ c ≤ 57)) : digN c = -1 := by unfold digN; rw [if_neg h]

theorem form_size (t : ByteArray) (w : World) (hs : t.size ≤ maxLen) (h : t.size < 2 ∨ 3 < t.size) (c0 c1 c2 : Int) :
    Calls Tryd.prog 72 #[.string t] w fun e w' => e = .returned (.bool (formN t.size c0 c1 c2)) ∧ w' = w := by
  unfold maxLen at hs
  by_cases h2 : (t.size : Int) < 2
  · clear h
    go_enter Tryd.func72, Tryd.ntmps72
    go_wp2
    go_ret
    exact ⟨ret_b (by simp [formN] <;> omega), rfl⟩
  · have h3 : 3 < (t.size : Int) := by omega
    clear h
    go_enter Tryd.func72, Tryd.ntmps72
    go_wp2
    go_ret
    exact ⟨ret_b (by simp [formN] <;> omega), rfl⟩

set_option maxHeartbeats 800000 in
theorem form_two (t : ByteArray) (c0 c1 c2 : Int) (w : World) (hz : t.size = 2) (b0 : 0 ≤ c0 ∧ c0 ≤ 255) (b1 : 0 ≤ c1 ∧ c1 ≤ 255) (_b2 : 0 ≤ c2 ∧ c2 ≤ 255)
    (a0 : ∀ W : World, (Instr.index 9 (.string t) (.int .i64 0)).run Tryd.prog W = .ok (.int .u8 c0) W) (a1 : ∀ W : World, (Instr.index 9 (.string t) (.int .i64 1)).run Tryd.prog W = .ok (.int .u8 c1) W) :
    Calls Tryd.prog 72 #[.string t] w fun e w' => e = .returned (.bool (formN 2 c0 c1 c2)) ∧ w' = w := by
  have z1 : ¬ (t.size : Int) < 2 := by omega
  have z2 : ¬ 3 < (t.size : Int) := by omega
  have z3 : ((t.size : Int) == 2) = true := by simp; omega
  have z4 : ((t.size : Int) == 3) = false := by simp; omega
  clear hz
  by_cases k : c0 = 108
  · subst k
    by_cases l1 : 97 ≤ c1 ∧ c1 ≤ 122
    · have e1 := letN_yes l1
      go_enter Tryd.func72, Tryd.ntmps72
      go_wp2_with (first | (go_at_call 74; refine (letter_any _ _ (by omega) (by omega)).mono ?_; rintro e w1 ⟨rfl, rfl⟩) | (go_at_call 73; refine (digit_any _ _ (by omega) (by omega)).mono ?_; rintro e w1 ⟨rfl, rfl⟩))
      go_ret
      exact ⟨ret_b (by simp [formN] <;> omega), rfl⟩
    · have e1 := letN_no l1
      go_enter Tryd.func72, Tryd.ntmps72
      go_wp2_with (first | (go_at_call 74; refine (letter_any _ _ (by omega) (by omega)).mono ?_; rintro e w1 ⟨rfl, rfl⟩) | (go_at_call 73; refine (digit_any _ _ (by omega) (by omega)).mono ?_; rintro e w1 ⟨rfl, rfl⟩))
      go_ret
      exact ⟨ret_b (by simp [formN] <;> omega), rfl⟩
  by_cases k2 : c0 = 106
  · subst k2
    go_enter Tryd.func72, Tryd.ntmps72
    go_wp2_with (first | (go_at_call 74; refine (letter_any _ _ (by omega) (by omega)).mono ?_; rintro e w1 ⟨rfl, rfl⟩) | (go_at_call 73; refine (digit_any _ _ (by omega) (by omega)).mono ?_; rintro e w1 ⟨rfl, rfl⟩))
    go_ret
    exact ⟨ret_b (by simp [formN] <;> omega), rfl⟩
  by_cases k3 : c0 = 114
  · subst k3
    go_enter Tryd.func72, Tryd.ntmps72
    go_wp2_with (first | (go_at_call 74; refine (letter_any _ _ (by omega) (by omega)).mono ?_; rintro e w1 ⟨rfl, rfl⟩) | (go_at_call 73; refine (digit_any _ _ (by omega) (by omega)).mono ?_; rintro e w1 ⟨rfl, rfl⟩))
    go_ret
    exact ⟨ret_b (by simp [formN] <;> omega), rfl⟩
  by_cases k4 : c0 = 118
  · subst k4
    go_enter Tryd.func72, Tryd.ntmps72
    go_wp2_with (first | (go_at_call 74; refine (letter_any _ _ (by omega) (by omega)).mono ?_; rintro e w1 ⟨rfl, rfl⟩) | (go_at_call 73; refine (digit_any _ _ (by omega) (by omega)).mono ?_; rintro e w1 ⟨rfl, rfl⟩))
    go_ret
    exact ⟨ret_b (by simp [formN] <;> omega), rfl⟩
  have j1 : (c0 == 108) = false := by simpa using k
  have j2 : (c0 == 106) = false := by simpa using k2
  have j3 : (c0 == 114) = false := by simpa using k3
  have j4 : (c0 == 118) = false := by simpa using k4
  go_enter Tryd.func72, Tryd.ntmps72
  go_wp2_with (first | (go_at_call 74; refine (letter_any _ _ (by omega) (by omega)).mono ?_; rintro e w1 ⟨rfl, rfl⟩) | (go_at_call 73; refine (digit_any _ _ (by omega) (by omega)).mono ?_; rintro e w1 ⟨rfl, rfl⟩))
  go_ret
  exact ⟨ret_b (by simp [formN] <;> omega), rfl⟩

set_option maxHeartbeats 800000 in
theorem form_three (t : ByteArray) (c0 c1 c2 : Int) (w : World) (hz : t.size = 3) (b0 : 0 ≤ c0 ∧ c0 ≤ 255) (b1 : 0 ≤ c1 ∧ c1 ≤ 255) (b2 : 0 ≤ c2 ∧ c2 ≤ 255)
    (a0 : ∀ W : World, (Instr.index 9 (.string t) (.int .i64 0)).run Tryd.prog W = .ok (.int .u8 c0) W) (a1 : ∀ W : World, (Instr.index 9 (.string t) (.int .i64 1)).run Tryd.prog W = .ok (.int .u8 c1) W) (a2 : ∀ W : World, (Instr.index 9 (.string t) (.int .i64 2)).run Tryd.prog W = .ok (.int .u8 c2) W) :
    Calls Tryd.prog 72 #[.string t] w fun e w' => e = .returned (.bool (formN 3 c0 c1 c2)) ∧ w' = w := by
  have z1 : ¬ (t.size : Int) < 2 := by omega
  have z2 : ¬ 3 < (t.size : Int) := by omega
  have z3 : ((t.size : Int) == 2) = false := by simp; omega
  have z4 : ((t.size : Int) == 3) = true := by simp; omega
  clear hz
  by_cases k : c0 = 108
  · subst k
    go_enter Tryd.func72, Tryd.ntmps72
    go_wp2_with (first | (go_at_call 74; refine (letter_any _ _ (by omega) (by omega)).mono ?_; rintro e w1 ⟨rfl, rfl⟩) | (go_at_call 73; refine (digit_any _ _ (by omega) (by omega)).mono ?_; rintro e w1 ⟨rfl, rfl⟩))
    go_ret
    exact ⟨ret_b (by simp [formN] <;> omega), rfl⟩
  by_cases k2 : c0 = 106
  · subst k2
    by_cases l1 : 97 ≤ c1 ∧ c1 ≤ 122
    · have e1 := letN_yes l1
      by_cases d2 : 48 ≤ c2 ∧ c2 ≤ 57
      · have e2 := digN_yes d2
        by_cases d3 : 49 ≤ c2
        · have d4 : 1 ≤ c2 - 48 := by omega
          go_enter Tryd.func72, Tryd.ntmps72
          go_wp2_with (first | (go_at_call 74; refine (letter_any _ _ (by omega) (by omega)).mono ?_; rintro e w1 ⟨rfl, rfl⟩) | (go_at_call 73; refine (digit_any _ _ (by omega) (by omega)).mono ?_; rintro e w1 ⟨rfl, rfl⟩))
          go_ret
          exact ⟨ret_b (by simp [formN] <;> omega), rfl⟩
        · have d4 : ¬ 1 ≤ c2 - 48 := by omega
          have DD : Hid (c2 < 49) := by unfold Hid; omega
          go_enter Tryd.func72, Tryd.ntmps72
          go_wp2_with (first | (go_at_call 74; refine (letter_any _ _ (by omega) (by omega)).mono ?_; rintro e w1 ⟨rfl, rfl⟩) | (go_at_call 73; refine (digit_any _ _ (by omega) (by omega)).mono ?_; rintro e w1 ⟨rfl, rfl⟩))
          go_ret
          exact ⟨ret_b (by have := DD.out; unfold Hid at this; unfold formN; rw [decide_eq_decide]; omega), rfl⟩
      · have e2 := digN_no d2
        have DD : Hid (c2 < 48 ∨ 57 < c2) := by unfold Hid; omega
        go_enter Tryd.func72, Tryd.ntmps72
        go_wp2_with (first | (go_at_call 74; refine (letter_any _ _ (by omega) (by omega)).mono ?_; rintro e w1 ⟨rfl, rfl⟩) | (go_at_call 73; refine (digit_any _ _ (by omega) (by omega)).mono ?_; rintro e w1 ⟨rfl, rfl⟩))
        go_ret
        exact ⟨ret_b (by have := DD.out; simp [formN] <;> omega), rfl⟩
    · have e1 := letN_no l1
      go_enter Tryd.func72, Tryd.ntmps72
      go_wp2_with (first | (go_at_call 74; refine (letter_any _ _ (by omega) (by omega)).mono ?_; rintro e w1 ⟨rfl, rfl⟩) | (go_at_call 73; refine (digit_any _ _ (by omega) (by omega)).mono ?_; rintro e w1 ⟨rfl, rfl⟩))
      go_ret
      exact ⟨ret_b (by simp [formN] <;> omega), rfl⟩
  by_cases k3 : c0 = 114
  · subst k3
    by_cases l1 : 97 ≤ c1 ∧ c1 ≤ 122
    · have e1 := letN_yes l1
      by_cases d2 : 48 ≤ c2 ∧ c2 ≤ 57
      · have e2 := digN_yes d2
        by_cases d3 : 49 ≤ c2
        · have d4 : 1 ≤ c2 - 48 := by omega
          go_enter Tryd.func72, Tryd.ntmps72
          go_wp2_with (first | (go_at_call 74; refine (letter_any _ _ (by omega) (by omega)).mono ?_; rintro e w1 ⟨rfl, rfl⟩) | (go_at_call 73; refine (digit_any _ _ (by omega) (by omega)).mono ?_; rintro e w1 ⟨rfl, rfl⟩))
          go_ret
          exact ⟨ret_b (by simp [formN] <;> omega), rfl⟩
        · have d4 : ¬ 1 ≤ c2 - 48 := by omega
          have DD : Hid (c2 < 49) := by unfold Hid; omega
          go_enter Tryd.func72, Tryd.ntmps72
          go_wp2_with (first | (go_at_call 74; refine (letter_any _ _ (by omega) (by omega)).mono ?_; rintro e w1 ⟨rfl, rfl⟩) | (go_at_call 73; refine (digit_any _ _ (by omega) (by omega)).mono ?_; rintro e w1 ⟨rfl, rfl⟩))
          go_ret
          exact ⟨ret_b (by have := DD.out; unfold Hid at this; unfold formN; rw [decide_eq_decide]; omega), rfl⟩
      · have e2 := digN_no d2
        have DD : Hid (c2 < 48 ∨ 57 < c2) := by unfold Hid; omega
        go_enter Tryd.func72, Tryd.ntmps72
        go_wp2_with (first | (go_at_call 74; refine (letter_any _ _ (by omega) (by omega)).mono ?_; rintro e w1 ⟨rfl, rfl⟩) | (go_at_call 73; refine (digit_any _ _ (by omega) (by omega)).mono ?_; rintro e w1 ⟨rfl, rfl⟩))
        go_ret
        exact ⟨ret_b (by have := DD.out; simp [formN] <;> omega), rfl⟩
    · have e1 := letN_no l1
      go_enter Tryd.func72, Tryd.ntmps72
      go_wp2_with (first | (go_at_call 74; refine (letter_any _ _ (by omega) (by omega)).mono ?_; rintro e w1 ⟨rfl, rfl⟩) | (go_at_call 73; refine (digit_any _ _ (by omega) (by omega)).mono ?_; rintro e w1 ⟨rfl, rfl⟩))
      go_ret
      exact ⟨ret_b (by simp [formN] <;> omega), rfl⟩
  by_cases k4 : c0 = 118
  · subst k4
    by_cases l1 : 48 ≤ c1 ∧ c1 ≤ 57
    · have e1 := digN_yes l1
      by_cases l2 : c1 ≤ 55
      · have l3 : c1 - 48 < 8 := by omega
        by_cases d2 : 48 ≤ c2 ∧ c2 ≤ 57
        · have e2 := digN_yes d2
          go_enter Tryd.func72, Tryd.ntmps72
          go_wp2_with (first | (go_at_call 74; refine (letter_any _ _ (by omega) (by omega)).mono ?_; rintro e w1 ⟨rfl, rfl⟩) | (go_at_call 73; refine (digit_any _ _ (by omega) (by omega)).mono ?_; rintro e w1 ⟨rfl, rfl⟩))
          go_ret
          exact ⟨ret_b (by simp [formN] <;> omega), rfl⟩
        · have e2 := digN_no d2
          have DD : Hid (c2 < 48 ∨ 57 < c2) := by unfold Hid; omega
          go_enter Tryd.func72, Tryd.ntmps72
          go_wp2_with (first | (go_at_call 74; refine (letter_any _ _ (by omega) (by omega)).mono ?_; rintro e w1 ⟨rfl, rfl⟩) | (go_at_call 73; refine (digit_any _ _ (by omega) (by omega)).mono ?_; rintro e w1 ⟨rfl, rfl⟩))
          go_ret
          exact ⟨ret_b (by have := DD.out; simp [formN] <;> omega), rfl⟩
      · have l3 : ¬ c1 - 48 < 8 := by omega
        go_enter Tryd.func72, Tryd.ntmps72
        go_wp2_with (first | (go_at_call 74; refine (letter_any _ _ (by omega) (by omega)).mono ?_; rintro e w1 ⟨rfl, rfl⟩) | (go_at_call 73; refine (digit_any _ _ (by omega) (by omega)).mono ?_; rintro e w1 ⟨rfl, rfl⟩))
        go_ret
        exact ⟨ret_b (by simp [formN] <;> omega), rfl⟩
    · have e1 := digN_no l1
      go_enter Tryd.func72, Tryd.ntmps72
      go_wp2_with (first | (go_at_call 74; refine (letter_any _ _ (by omega) (by omega)).mono ?_; rintro e w1 ⟨rfl, rfl⟩) | (go_at_call 73; refine (digit_any _ _ (by omega) (by omega)).mono ?_; rintro e w1 ⟨rfl, rfl⟩))
      go_ret
      exact ⟨ret_b (by simp [formN] <;> omega), rfl⟩
  have j1 : (c0 == 108) = false := by simpa using k
  have j2 : (c0 == 106) = false := by simpa using k2
  have j3 : (c0 == 114) = false := by simpa using k3
  have j4 : (c0 == 118) = false := by simpa using k4
  go_enter Tryd.func72, Tryd.ntmps72
  go_wp2_with (first | (go_at_call 74; refine (letter_any _ _ (by omega) (by omega)).mono ?_; rintro e w1 ⟨rfl, rfl⟩) | (go_at_call 73; refine (digit_any _ _ (by omega) (by omega)).mono ?_; rintro e w1 ⟨rfl, rfl⟩))
  go_ret
  exact ⟨ret_b (by simp [formN] <;> omega), rfl⟩

/-- The document's Form, at every text. -/
theorem form_any (t : ByteArray) (w : World) (hs : t.size ≤ maxLen) :
    Calls Tryd.prog 72 #[.string t] w fun e w' => e = .returned (.bool (formB t)) ∧ w' = w := by
  by_cases h : t.size < 2 ∨ 3 < t.size
  · exact form_size t w hs h _ _ _
  · by_cases h2 : t.size = 2
    · have := form_two t (byt t 0) (byt t 1) (byt t 2) w h2 (byt_bd _ _) (byt_bd _ _) (byt_bd _ _) (index_byt t 0 (by omega)) (index_byt t 1 (by omega))
      unfold formB
      rw [h2]
      exact this
    · have h3 : t.size = 3 := by omega
      have := form_three t (byt t 0) (byt t 1) (byt t 2) w h3 (byt_bd _ _) (byt_bd _ _) (byt_bd _ _) (index_byt t 0 (by omega)) (index_byt t 1 (by omega)) (index_byt t 2 (by omega))
      unfold formB
      rw [h3]
      exact this

end Go.Proofs.YtcfjhbcpjpgodaaDoor
