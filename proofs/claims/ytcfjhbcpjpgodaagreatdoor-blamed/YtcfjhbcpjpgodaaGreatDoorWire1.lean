/- Proved here: what wire's hasFrame and mark answer at every message. -/
import Derived.Test.YtcfjhbcpjpgodaaGreatDoorJ3
import Derived.WalkSpells
import Derived.WalkLawsBesides
import Derived.Test.YtcfjhbcpjpgodaaGreatDoorJ1
namespace Go.Proofs.YtcfjhbcpjpgodaaGreatDoor
open Go.RowKit

set_option maxHeartbeats 400000 in
theorem hasFrame_any (K H R F V : Int) (nl : Bool) (s : ByteArray) (w : World) (hs : s.size ≤ maxLen) :
    Calls Tryz.prog 139 #[.agg #[.int .i64 K, .int .i64 H, .int .i64 R, .int .i64 F, .int .i64 V, .bool nl, .string s]] w fun e w' => e = .returned (.bool (hasB K H R F V nl s.size)) ∧ Below w.heap.size w w' := by
  unfold maxLen at hs
  by_cases h1 : H < 0
  · go_enter Tryz.func139, Tryz.ntmps139
    go_wp2
    go_ret
    exact ⟨ret_bool (by simp [hasB] <;> omega), (Below.refl _ _).alloc (Nat.le_refl _) _⟩
  by_cases h2 : 12 ≤ H
  · go_enter Tryz.func139, Tryz.ntmps139
    go_wp2
    go_ret
    exact ⟨ret_bool (by simp [hasB] <;> omega), (Below.refl _ _).alloc (Nat.le_refl _) _⟩
  by_cases h3 : R < 0
  · go_enter Tryz.func139, Tryz.ntmps139
    go_wp2
    go_ret
    exact ⟨ret_bool (by simp [hasB] <;> omega), (Below.refl _ _).alloc (Nat.le_refl _) _⟩
  by_cases h4 : 255 < R
  · go_enter Tryz.func139, Tryz.ntmps139
    go_wp2
    go_ret
    exact ⟨ret_bool (by simp [hasB] <;> omega), (Below.refl _ _).alloc (Nat.le_refl _) _⟩
  by_cases h5 : F < 0
  · go_enter Tryz.func139, Tryz.ntmps139
    go_wp2
    go_ret
    exact ⟨ret_bool (by simp [hasB] <;> omega), (Below.refl _ _).alloc (Nat.le_refl _) _⟩
  by_cases h6 : 8 ≤ F
  · go_enter Tryz.func139, Tryz.ntmps139
    go_wp2
    go_ret
    exact ⟨ret_bool (by simp [hasB] <;> omega), (Below.refl _ _).alloc (Nat.le_refl _) _⟩
  by_cases h7 : 24 < (s.size : Int)
  · go_enter Tryz.func139, Tryz.ntmps139
    go_wp2
    go_ret
    exact ⟨ret_bool (by simp [hasB] <;> omega), (Below.refl _ _).alloc (Nat.le_refl _) _⟩
  by_cases k1 : K = 1
  · subst k1
    cases nl with
    | true =>
      go_enter Tryz.func139, Tryz.ntmps139
      go_wp2
      go_ret
      exact ⟨ret_bool (by simp [hasB] <;> omega), (Below.refl _ _).alloc (Nat.le_refl _) _⟩
    | false =>
      by_cases v1 : -1 ≤ V
      · by_cases v2 : V < R
        · have v2' : ¬ R ≤ V := by omega
          go_enter Tryz.func139, Tryz.ntmps139
          go_wp2
          go_ret
          exact ⟨ret_bool (by simp [hasB] <;> omega), (Below.refl _ _).alloc (Nat.le_refl _) _⟩
        · go_enter Tryz.func139, Tryz.ntmps139
          go_wp2
          go_ret
          exact ⟨ret_bool (by simp [hasB] <;> omega), (Below.refl _ _).alloc (Nat.le_refl _) _⟩
      · go_enter Tryz.func139, Tryz.ntmps139
        go_wp2
        go_ret
        exact ⟨ret_bool (by simp [hasB] <;> omega), (Below.refl _ _).alloc (Nat.le_refl _) _⟩
  have k1' : (K == 1) = false := by simpa using k1
  by_cases k23 : K = 2 ∨ K = 3
  · by_cases v0 : V = 0
    · subst v0
      cases nl with
      | false =>
        rcases k23 with k | k
        · subst k
          clear k1'
          go_enter Tryz.func139, Tryz.ntmps139
          go_wp2
          go_ret
          exact ⟨ret_bool (by simp [hasB] <;> omega), (Below.refl _ _).alloc (Nat.le_refl _) _⟩
        · subst k
          clear k1'
          go_enter Tryz.func139, Tryz.ntmps139
          go_wp2
          go_ret
          exact ⟨ret_bool (by simp [hasB] <;> omega), (Below.refl _ _).alloc (Nat.le_refl _) _⟩
      | true =>
        rcases k23 with k | k
        · subst k
          clear k1'
          go_enter Tryz.func139, Tryz.ntmps139
          go_wp2
          go_ret
          refine ⟨ret_bool ?_, (Below.refl _ _).alloc (Nat.le_refl _) _⟩
          rw [isEmpty_size]
          exact hasB_nil _ _ _ _ _ (by omega) (by omega) (by omega) (by omega) (by omega) (by omega) (by omega) (by omega)
        · subst k
          clear k1'
          go_enter Tryz.func139, Tryz.ntmps139
          go_wp2
          go_ret
          refine ⟨ret_bool ?_, (Below.refl _ _).alloc (Nat.le_refl _) _⟩
          rw [isEmpty_size]
          exact hasB_nil _ _ _ _ _ (by omega) (by omega) (by omega) (by omega) (by omega) (by omega) (by omega) (by omega)
    · have v0' : (V == 0) = false := by simpa using v0
      rcases k23 with k | k
      · subst k
        clear k1'
        go_enter Tryz.func139, Tryz.ntmps139
        go_wp2
        go_ret
        exact ⟨ret_bool (by simp [hasB] <;> omega), (Below.refl _ _).alloc (Nat.le_refl _) _⟩
      · subst k
        clear k1'
        go_enter Tryz.func139, Tryz.ntmps139
        go_wp2
        go_ret
        exact ⟨ret_bool (by simp [hasB] <;> omega), (Below.refl _ _).alloc (Nat.le_refl _) _⟩
  · have k2 : (K == 2) = false := by simp; omega
    have k3 : (K == 3) = false := by simp; omega
    go_enter Tryz.func139, Tryz.ntmps139
    go_wp2
    go_ret
    exact ⟨ret_bool (by simp [hasB] <;> omega), (Below.refl _ _).alloc (Nat.le_refl _) _⟩

theorem wireMark_any (K H R F V : Int) (nl : Bool) (s : ByteArray) (w : World) (h : hasB K H R F V nl s.size = true) :
    Calls Tryz.prog 140 #[.agg #[.int .i64 K, .int .i64 H, .int .i64 R, .int .i64 F, .int .i64 V, .bool nl, .string s]] w fun e w' => e = .returned (.int .u8 (markOf K V nl)) ∧ Below w.heap.size w w' := by
  have h' := of_decide_eq_true h
  clear h
  by_cases k1 : K = 1
  · subst k1
    have v1 : -1 ≤ V := by omega
    have v2 : V < 255 := by omega
    clear h'
    go_enter Tryz.func140, Tryz.ntmps140
    go_wp2
    go_ret
    refine ⟨ret_int ?_, (Below.refl _ _).alloc (Nat.le_refl _) _⟩
    simp [markOf]
  · have k1' : (K == 1) = false := by simpa using k1
    clear h'
    cases nl
    · go_enter Tryz.func140, Tryz.ntmps140
      go_wp2
      go_ret
      exact ⟨ret_int (by simp [markOf, k1]), (Below.refl _ _).alloc (Nat.le_refl _) _⟩
    · go_enter Tryz.func140, Tryz.ntmps140
      go_wp2
      go_ret
      exact ⟨ret_int (by simp [markOf, k1]), (Below.refl _ _).alloc (Nat.le_refl _) _⟩

end Go.Proofs.YtcfjhbcpjpgodaaGreatDoor
