/- Proved here: what wire's hasFrame and mark answer at every message. -/
import Derived.Test.YtmoambbllcelkaaDoorWhich
namespace Go.Proofs.YtmoambbllcelkaaDoor
open Go.RowKit

/-- Has a message a frame? -/
def hasB (K H R F V : Int) (nl : Bool) (n : Nat) : Bool :=
  decide (0 ≤ H ∧ H < 12 ∧ 0 ≤ R ∧ R ≤ 255 ∧ 0 ≤ F ∧ F < 8 ∧ n ≤ 24 ∧ ((K = 1 ∧ nl = false ∧ -1 ≤ V ∧ V < R) ∨ ((K = 2 ∨ K = 3) ∧ V = 0 ∧ (nl = false ∨ n = 0))))

theorem isEmpty_size (s : ByteArray) : s.toList.isEmpty = decide (s.size = 0) := by
  rw [ByteArray.toList_eq, Bool.eq_iff_iff, List.isEmpty_iff, decide_eq_true_eq, ← List.length_eq_zero_iff]
  simp

theorem hasB_nil (K H R F : Int) (n : Nat) (h1 : 0 ≤ H) (h2 : H < 12) (h3 : 0 ≤ R) (h4 : R ≤ 255) (h5 : 0 ≤ F) (h6 : F < 8) (_h7 : n ≤ 24) (hk : K = 2 ∨ K = 3) : decide (n = 0) = hasB K H R F 0 true n := by
  unfold hasB
  rw [decide_eq_decide]
  simp
  omega

theorem ret_bool {a b : Bool} (h : a = b) : Ending.returned (.bool a) = .returned (.bool b) := by rw [h]

set_option maxHeartbeats 400000 in
theorem hasFrame_any (K H R F V : Int) (nl : Bool) (s : ByteArray) (w : World) (hs : s.size ≤ maxLen) :
    Calls Tryd.prog 35 #[.agg #[.int .i64 K, .int .i64 H, .int .i64 R, .int .i64 F, .int .i64 V, .bool nl, .string s]] w fun e w' => e = .returned (.bool (hasB K H R F V nl s.size)) ∧ Below w.heap.size w w' := by
  unfold maxLen at hs
  by_cases h1 : H < 0
  · go_enter Tryd.func35, Tryd.ntmps35
    go_wp2
    go_ret
    exact ⟨ret_bool (by simp [hasB] <;> omega), (Below.refl _ _).alloc (Nat.le_refl _) _⟩
  by_cases h2 : 12 ≤ H
  · go_enter Tryd.func35, Tryd.ntmps35
    go_wp2
    go_ret
    exact ⟨ret_bool (by simp [hasB] <;> omega), (Below.refl _ _).alloc (Nat.le_refl _) _⟩
  by_cases h3 : R < 0
  · go_enter Tryd.func35, Tryd.ntmps35
    go_wp2
    go_ret
    exact ⟨ret_bool (by simp [hasB] <;> omega), (Below.refl _ _).alloc (Nat.le_refl _) _⟩
  by_cases h4 : 255 < R
  · go_enter Tryd.func35, Tryd.ntmps35
    go_wp2
    go_ret
    exact ⟨ret_bool (by simp [hasB] <;> omega), (Below.refl _ _).alloc (Nat.le_refl _) _⟩
  by_cases h5 : F < 0
  · go_enter Tryd.func35, Tryd.ntmps35
    go_wp2
    go_ret
    exact ⟨ret_bool (by simp [hasB] <;> omega), (Below.refl _ _).alloc (Nat.le_refl _) _⟩
  by_cases h6 : 8 ≤ F
  · go_enter Tryd.func35, Tryd.ntmps35
    go_wp2
    go_ret
    exact ⟨ret_bool (by simp [hasB] <;> omega), (Below.refl _ _).alloc (Nat.le_refl _) _⟩
  by_cases h7 : 24 < (s.size : Int)
  · go_enter Tryd.func35, Tryd.ntmps35
    go_wp2
    go_ret
    exact ⟨ret_bool (by simp [hasB] <;> omega), (Below.refl _ _).alloc (Nat.le_refl _) _⟩
  by_cases k1 : K = 1
  · subst k1
    cases nl with
    | true =>
      go_enter Tryd.func35, Tryd.ntmps35
      go_wp2
      go_ret
      exact ⟨ret_bool (by simp [hasB] <;> omega), (Below.refl _ _).alloc (Nat.le_refl _) _⟩
    | false =>
      by_cases v1 : -1 ≤ V
      · by_cases v2 : V < R
        · have v2' : ¬ R ≤ V := by omega
          go_enter Tryd.func35, Tryd.ntmps35
          go_wp2
          go_ret
          exact ⟨ret_bool (by simp [hasB] <;> omega), (Below.refl _ _).alloc (Nat.le_refl _) _⟩
        · go_enter Tryd.func35, Tryd.ntmps35
          go_wp2
          go_ret
          exact ⟨ret_bool (by simp [hasB] <;> omega), (Below.refl _ _).alloc (Nat.le_refl _) _⟩
      · go_enter Tryd.func35, Tryd.ntmps35
        go_wp2
        go_ret
        exact ⟨ret_bool (by simp [hasB] <;> omega), (Below.refl _ _).alloc (Nat.le_refl _) _⟩
  have k1' : (K == 1) = false := by simpa using k1
  by_cases k23 : K = 2 ∨ K = 3
  · by_cases v0 : V = 0
    · subst v0
      cases nl with
      | false =>
        rcases k23 with k | k
        · subst k
          clear k1'
          go_enter Tryd.func35, Tryd.ntmps35
          go_wp2
          go_ret
          exact ⟨ret_bool (by simp [hasB] <;> omega), (Below.refl _ _).alloc (Nat.le_refl _) _⟩
        · subst k
          clear k1'
          go_enter Tryd.func35, Tryd.ntmps35
          go_wp2
          go_ret
          exact ⟨ret_bool (by simp [hasB] <;> omega), (Below.refl _ _).alloc (Nat.le_refl _) _⟩
      | true =>
        rcases k23 with k | k
        · subst k
          clear k1'
          go_enter Tryd.func35, Tryd.ntmps35
          go_wp2
          go_ret
          refine ⟨ret_bool ?_, (Below.refl _ _).alloc (Nat.le_refl _) _⟩
          rw [isEmpty_size]
          exact hasB_nil _ _ _ _ _ (by omega) (by omega) (by omega) (by omega) (by omega) (by omega) (by omega) (by omega)
        · subst k
          clear k1'
          go_enter Tryd.func35, Tryd.ntmps35
          go_wp2
          go_ret
          refine ⟨ret_bool ?_, (Below.refl _ _).alloc (Nat.le_refl _) _⟩
          rw [isEmpty_size]
          exact hasB_nil _ _ _ _ _ (by omega) (by omega) (by omega) (by omega) (by omega) (by omega) (by omega) (by omega)
    · have v0' : (V == 0) = false := by simpa using v0
      rcases k23 with k | k
      · subst k
        clear k1'
        go_enter Tryd.func35, Tryd.ntmps35
        go_wp2
        go_ret
        exact ⟨ret_bool (by simp [hasB] <;> omega), (Below.refl _ _).alloc (Nat.le_refl _) _⟩
      · subst k
        clear k1'
        go_enter Tryd.func35, Tryd.ntmps35
        go_wp2
        go_ret
        exact ⟨ret_bool (by simp [hasB] <;> omega), (Below.refl _ _).alloc (Nat.le_refl _) _⟩
  · have k2 : (K == 2) = false := by simp; omega
    have k3 : (K == 3) = false := by simp; omega
    go_enter Tryd.func35, Tryd.ntmps35
    go_wp2
    go_ret
    exact ⟨ret_bool (by simp [hasB] <;> omega), (Below.refl _ _).alloc (Nat.le_refl _) _⟩

/-- The fifth byte of a message's frame. -/
def markOf (K V : Int) (nl : Bool) : Int := if K = 1 then V + 1 else if nl then 1 else 0

theorem ret_int {k : IntKind} {a b : Int} (h : a = b) : Ending.returned (.int k a) = .returned (.int k b) := by rw [h]

theorem mark_any (K H R F V : Int) (nl : Bool) (s : ByteArray) (w : World) (h : hasB K H R F V nl s.size = true) :
    Calls Tryd.prog 36 #[.agg #[.int .i64 K, .int .i64 H, .int .i64 R, .int .i64 F, .int .i64 V, .bool nl, .string s]] w fun e w' => e = .returned (.int .u8 (markOf K V nl)) ∧ Below w.heap.size w w' := by
  have h' := of_decide_eq_true h
  clear h
  by_cases k1 : K = 1
  · subst k1
    have v1 : -1 ≤ V := by omega
    have v2 : V < 255 := by omega
    clear h'
    go_enter Tryd.func36, Tryd.ntmps36
    go_wp2
    go_ret
    refine ⟨ret_int ?_, (Below.refl _ _).alloc (Nat.le_refl _) _⟩
    simp [markOf]
  · have k1' : (K == 1) = false := by simpa using k1
    clear h'
    cases nl
    · go_enter Tryd.func36, Tryd.ntmps36
      go_wp2
      go_ret
      exact ⟨ret_int (by simp [markOf, k1]), (Below.refl _ _).alloc (Nat.le_refl _) _⟩
    · go_enter Tryd.func36, Tryd.ntmps36
      go_wp2
      go_ret
      exact ⟨ret_int (by simp [markOf, k1]), (Below.refl _ _).alloc (Nat.le_refl _) _⟩

end Go.Proofs.YtmoambbllcelkaaDoor
