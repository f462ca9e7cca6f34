/- Proved here: what the document's registry answers for the power of all, and what letter and digit answer at every byte. -/
import Derived.Test.YtcfjhbcpjpgodaaDoorReg0
namespace Go.Proofs.YtcfjhbcpjpgodaaDoor
open Go.RowKit

theorem ret_i64 {a b : Int} (h : a = b) : Ending.returned (.int .i64 a) = .returned (.int .i64 b) := by rw [h]

set_option maxHeartbeats 400000 in
theorem refTotal (x : Nat → Int) (w : World) (hx : ∀ i, i < 8 → 0 ≤ x i ∧ x i ≤ 9) :
    Calls Tryd.prog 49 #[.agg (regA x)] w fun e w' => e = .returned (.int .i64 (sumTo x 8)) ∧ Below w.heap.size w w' := by
  have HX := hide hx
  clear hx
  go_enter Tryd.func49, Tryd.ntmps49
  go_wp2
  go_loop [3, 4] (fun n i => ∃ k : Nat, k ≤ 8 ∧ i = .int .i64 k ∧ n = .int .i64 (sumTo x k)) (fun _ i => 8 - (intOf i).toNat)
  case atStart => exact ⟨0, by omega, rfl, rfl⟩
  case round =>
    obtain ⟨k, hk, rfl, rfl⟩ := hrel
    by_cases hlt : k < 8
    · have hg := regA_get x k (by omega)
      have hb := sumTo_bound x k (fun i hi => HX.out i (by omega))
      have hxk := HX.out k hlt
      have hk2 : (k : Int) < 8 := by omega
      go_wp2
      go_round
      case rel => exact ⟨k + 1, by omega, by go_num, rfl⟩
      case measure => simp [intOf]; omega
    · obtain rfl : k = 8 := by omega
      go_wp2
      go_ret
      exact ⟨rfl, (Below.refl _ _).alloc (Nat.le_refl _) _⟩

/-- A name's number, or -1. -/
def letN (c : Int) : Int := if 97 ≤ c ∧ c ≤ 122 then c - 97 else -1
/-- A digit's number, or -1. -/
def digN (c : Int) : Int := if 48 ≤ c ∧ c ≤ 57 then c - 48 else -1

theorem letter_any (c : Int) (w : World) (h0 : 0 ≤ c) (h1 : c ≤ 255) :
    Calls Tryd.prog 74 #[.int .u8 c] w fun e w' => e = .returned (.int .i64 (letN c)) ∧ w' = w := by
  by_cases ha : c < 97
  · go_enter Tryd.func74, Tryd.ntmps74
    go_wp2
    go_ret
    exact ⟨ret_i64 (by unfold letN; rw [if_neg (by omega)]), rfl⟩
  · by_cases hb : 122 < c
    · go_enter Tryd.func74, Tryd.ntmps74
      go_wp2
      go_ret
      exact ⟨ret_i64 (by unfold letN; rw [if_neg (by omega)]), rfl⟩
    · go_enter Tryd.func74, Tryd.ntmps74
      go_wp2
      go_ret
      exact ⟨ret_i64 (by unfold letN; rw [if_pos (by omega)]), rfl⟩

theorem digit_any (c : Int) (w : World) (h0 : 0 ≤ c) (h1 : c ≤ 255) :
    Calls Tryd.prog 73 #[.int .u8 c] w fun e w' => e = .returned (.int .i64 (digN c)) ∧ w' = w := by
  by_cases ha : c < 48
  · go_enter Tryd.func73, Tryd.ntmps73
    go_wp2
    go_ret
    exact ⟨ret_i64 (by unfold digN; rw [if_neg (by omega)]), rfl⟩
  · by_cases hb : 57 < c
    · go_enter Tryd.func73, Tryd.ntmps73
      go_wp2
      go_ret
      exact ⟨ret_i64 (by unfold digN; rw [if_neg (by omega)]), rfl⟩
    · go_enter Tryd.func73, Tryd.ntmps73
      go_wp2
      go_ret
      exact ⟨ret_i64 (by unfold digN; rw [if_pos (by omega)]), rfl⟩

end Go.Proofs.YtcfjhbcpjpgodaaDoor
