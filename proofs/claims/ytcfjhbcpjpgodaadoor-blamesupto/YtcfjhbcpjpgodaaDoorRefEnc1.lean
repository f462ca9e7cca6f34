/- Proved here: what the document's own Encode answers at a message whose plain parts are out of range. -/
import Derived.Test.YtcfjhbcpjpgodaaDoorRefEnc0
namespace Go.Proofs.YtcfjhbcpjpgodaaDoor
open Go.RowKit

set_option maxRecDepth 100000 in
set_option maxHeartbeats 1000000 in
theorem refEncode_no (K H R F V : Int) (nl : Bool) (s : ByteArray) (w : World) (hs : s.size ≤ maxLen) (h : K < 1 ∨ 3 < K ∨ H < 0 ∨ 12 ≤ H ∨ R < 0 ∨ 255 < R ∨ F < 0 ∨ 8 ≤ F ∨ 24 < (s.size : Int)) :
    Calls Tryd.prog 11 #[.agg #[.int .i64 K, .int .i64 H, .int .i64 R, .int .i64 F, .int .i64 V, .bool nl, .string s]] w fun e w' => e = .returned (.tuple #[.string (encS K H R F V nl s), .bool (hasB K H R F V nl s.size)]) ∧ Below w.heap.size w w' := by
  unfold maxLen at hs
  by_cases c0 : K < 1
  · clear h
    go_enter Tryd.func11, Tryd.ntmps11
    go_wp2
    go_ret2
    exact ⟨ret_str (encS_no (by simp [hasB] <;> omega)).symm (by simp [hasB] <;> omega), (Below.refl _ _).alloc (Nat.le_refl _) _⟩
  by_cases c1 : 3 < K
  · clear h
    go_enter Tryd.func11, Tryd.ntmps11
    go_wp2
    go_ret2
    exact ⟨ret_str (encS_no (by simp [hasB] <;> omega)).symm (by simp [hasB] <;> omega), (Below.refl _ _).alloc (Nat.le_refl _) _⟩
  by_cases c2 : H < 0
  · clear h
    go_enter Tryd.func11, Tryd.ntmps11
    go_wp2
    go_ret2
    exact ⟨ret_str (encS_no (by simp [hasB] <;> omega)).symm (by simp [hasB] <;> omega), (Below.refl _ _).alloc (Nat.le_refl _) _⟩
  by_cases c3 : 12 ≤ H
  · clear h
    go_enter Tryd.func11, Tryd.ntmps11
    go_wp2
    go_ret2
    exact ⟨ret_str (encS_no (by simp [hasB] <;> omega)).symm (by simp [hasB] <;> omega), (Below.refl _ _).alloc (Nat.le_refl _) _⟩
  by_cases c4 : R < 0
  · clear h
    go_enter Tryd.func11, Tryd.ntmps11
    go_wp2
    go_ret2
    exact ⟨ret_str (encS_no (by simp [hasB] <;> omega)).symm (by simp [hasB] <;> omega), (Below.refl _ _).alloc (Nat.le_refl _) _⟩
  by_cases c5 : 255 < R
  · clear h
    go_enter Tryd.func11, Tryd.ntmps11
    go_wp2
    go_ret2
    exact ⟨ret_str (encS_no (by simp [hasB] <;> omega)).symm (by simp [hasB] <;> omega), (Below.refl _ _).alloc (Nat.le_refl _) _⟩
  by_cases c6 : F < 0
  · clear h
    go_enter Tryd.func11, Tryd.ntmps11
    go_wp2
    go_ret2
    exact ⟨ret_str (encS_no (by simp [hasB] <;> omega)).symm (by simp [hasB] <;> omega), (Below.refl _ _).alloc (Nat.le_refl _) _⟩
  by_cases c7 : 8 ≤ F
  · clear h
    go_enter Tryd.func11, Tryd.ntmps11
    go_wp2
    go_ret2
    exact ⟨ret_str (encS_no (by simp [hasB] <;> omega)).symm (by simp [hasB] <;> omega), (Below.refl _ _).alloc (Nat.le_refl _) _⟩
  have c8 : 24 < (s.size : Int) := by omega
  clear h
  go_enter Tryd.func11, Tryd.ntmps11
  go_wp2
  go_ret2
  exact ⟨ret_str (encS_no (by simp [hasB] <;> omega)).symm (by simp [hasB] <;> omega), (Below.refl _ _).alloc (Nat.le_refl _) _⟩

end Go.Proofs.YtcfjhbcpjpgodaaDoor
