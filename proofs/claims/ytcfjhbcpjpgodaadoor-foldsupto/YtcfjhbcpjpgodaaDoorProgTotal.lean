/- Proved here: the program's registry: the power of all; where a byte stands between two others. -/
import Derived.Test.YtcfjhbcpjpgodaaDoorPlain0
namespace Go.Proofs.YtcfjhbcpjpgodaaDoor
open Go.RowKit

theorem powL_get (x : Nat → Int) (n i : Nat) (h : i < n) : (powL x n).toArray[i]? = some (.int .i64 (x i)) := by simp [powL, h]
theorem powL_range {w : World} {g : Nat} {t : TypeId} {x : Nat → Int} (h : RegAt w g t x) : w.rangeAt g 0 (powL x 8) := fun j v hv => by
  have hj : j < 8 := by have := (List.getElem?_eq_some_iff.1 hv).1; simpa [powL] using this
  rw [Nat.zero_add, h.cell j (by omega)]
  have : (powL x 8)[j]? = some (.int .i64 (x j)) := by simp [powL, hj]
  rw [this] at hv
  exact hv

set_option maxRecDepth 100000 in
theorem index_pow (C : Array Value) (k : Nat) (v : Int) (hk : k < 8) (hg : C[k]? = some (.int .i64 v)) (W : World) : (Instr.index 51 (.agg C) (.int .i64 (k : Int))).run Tryd.prog W = .ok (.int .i64 v) W := by
  have h : 0 ≤ (k : Int) ∧ (k : Int) < ((8 : Nat) : Int) := by omega
  simp [Instr.index, run_underlying Tryd.underlying51, asIntOf, go_sem, Tryd.sizeOf3, Tryd.isAgg3, hg, hk]

set_option maxRecDepth 100000 in
set_option maxHeartbeats 400000 in
theorem total_any (x : Nat → Int) (w : World) (hx : ∀ i, i < 8 → 0 ≤ x i ∧ x i ≤ 9) :
    Calls Tryd.prog 58 #[.agg (regA x)] w fun e w' => e = .returned (.int .i64 (sumTo x 8)) ∧ Below w.heap.size w w' := by
  have HX := hide hx
  clear hx
  have HR := hide (RegAt.alloc w 92 x)
  go_enter Tryd.func58, Tryd.ntmps58
  go_wp2_with (refine wpList_load_mid rfl 51 _ rfl w.heap.size 0 rfl (powL x 8) _ (powL_range HR.out) Tryd.underlying51 rfl (by rw [powL_length]; exact Tryd.sizePowers) ?_)
  go_loop [3, 5, 8] (fun n _ i => ∃ k : Nat, k ≤ 8 ∧ i = .int .i64 k ∧ n = .int .i64 (sumTo x k)) (fun _ _ i => 8 - (intOf i).toNat)
  case atStart => exact ⟨0, by omega, rfl, rfl⟩
  case round =>
    obtain ⟨k, hk, rfl, rfl⟩ := hrel
    by_cases hlt : k < 8
    · have hg := index_pow (powL x 8).toArray k (x k) hlt (powL_get x 8 k hlt)
      have hb := sumTo_bound x k (fun i hi => HX.out i (by omega))
      have hxk := HX.out k hlt
      have hk2 : (k : Int) < 8 := by omega
      go_wp2
      go_round
      case rel => exact ⟨k + 1, by omega, by go_num, rfl⟩
      case measure => simp [intOf]; omega
    · obtain rfl : k = 8 := by omega
      go_wp2
      go_ret
      exact ⟨rfl, (Below.refl _ _).alloc (Nat.le_refl _) _⟩

theorem place_any (c a b : Int) (w : World) (ha : 0 ≤ a) (hb : b ≤ 255) :
    Calls Tryd.prog 71 #[.int .u8 c, .int .u8 a, .int .u8 b] w fun e w' => e = .returned (.tuple #[.int .i64 (if a ≤ c ∧ c ≤ b then c - a else 0), .bool (decide (a ≤ c ∧ c ≤ b))]) ∧ w' = w := by
  by_cases h2 : c < a
  · rw [if_neg (by omega), decide_eq_false (by omega)]
    go_enter Tryd.func71, Tryd.ntmps71
    go_wp2
    go_ret2
    exact ⟨rfl, rfl⟩
  · by_cases h3 : b < c
    · rw [if_neg (by omega), decide_eq_false (by omega)]
      go_enter Tryd.func71, Tryd.ntmps71
      go_wp2
      go_ret2
      exact ⟨rfl, rfl⟩
    · rw [if_pos (by omega), decide_eq_true (by omega)]
      go_enter Tryd.func71, Tryd.ntmps71
      go_wp2
      go_ret2
      exact ⟨rfl, rfl⟩

end Go.Proofs.YtcfjhbcpjpgodaaDoor
