/- Proved here: plain facts on when a message has a frame. -/
import Derived.Test.YtcfjhbcpjpgodaaGreatDoorBase
import Derived.Laws.BytesArg
namespace Go.Proofs.YtcfjhbcpjpgodaaGreatDoor
open Go.RowKit

def hasB (K H R F V : Int) (nl : Bool) (n : Nat) : Bool :=
 decide (0 ≤ H ∧ H < 12 ∧ 0 ≤ R ∧ R ≤ 255 ∧ 0 ≤ F ∧ F < 8 ∧ n ≤ 24 ∧ ((K = 1 ∧ nl = false ∧ -1 ≤ V ∧ V < R) ∨ ((K = 2 ∨ K = 3) ∧ V = 0 ∧ (nl = false ∨ n = 0))))

theorem isEmpty_size (s : ByteArray) : s.toList.isEmpty = decide (s.size = 0) := by
 rw [ByteArray.toList_eq, Bool.eq_iff_iff, List.isEmpty_iff, decide_eq_true_eq, ← List.length_eq_zero_iff]
 simp

theorem hasB_nil (K H R F : Int) (n : Nat) (h1 : 0 ≤ H) (h2 : H < 12) (h3 : 0 ≤ R) (h4 : R ≤ 255) (h5 : 0 ≤ F) (h6 : F < 8) (_h7 : n ≤ 24) (hk : K = 2 ∨ K = 3) : decide (n = 0) = hasB K H R F 0 true n := by
 unfold hasB
 rw [decide_eq_decide]
 simp
 omega

theorem ret_bool {a b : Bool} (h : a = b) : Ending.returned (.bool a) = .returned (.bool b) := by rw [h]

def markOf (K V : Int) (nl : Bool) : Int := if K = 1 then V + 1 else if nl then 1 else 0

theorem ret_int {k : IntKind} {a b : Int} (h : a = b) : Ending.returned (.int k a) = .returned (.int k b) := by rw [h]

def frameOf (K H R F M : Int) (s : ByteArray) : ByteArray := strOfNums [K, H, R, F, M, s.size] ++ s

def encS (K H R F V : Int) (nl : Bool) (s : ByteArray) : ByteArray := if hasB K H R F V nl s.size = true then frameOf K H R F (markOf K V nl) s else ⟨#[]⟩

theorem encS_yes {K H R F V : Int} {nl : Bool} {s : ByteArray} (h : hasB K H R F V nl s.size = true) : encS K H R F V nl s = frameOf K H R F (markOf K V nl) s := by unfold encS; rw [if_pos h]
theorem encS_no {K H R F V : Int} {nl : Bool} {s : ByteArray} (h : hasB K H R F V nl s.size = false) : encS K H R F V nl s = ⟨#[]⟩ := by unfold encS; rw [if_neg (by simp [h])]

end Go.Proofs.YtcfjhbcpjpgodaaGreatDoor
