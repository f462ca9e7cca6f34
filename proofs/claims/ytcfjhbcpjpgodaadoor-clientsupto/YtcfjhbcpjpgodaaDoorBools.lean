/- Proved here: small laws on rows of eight bools. -/
import Derived.Test.YtcfjhbcpjpgodaaDoorBase
namespace Go.Proofs.YtcfjhbcpjpgodaaDoor
open Go.RowKit

theorem Tryd.sizeBools : (Tryd.prog.info? 112).map (·.size) = some 8 := by kernel_rfl

/-- Eight bools. -/
def boolA (b : Nat → Bool) : Array Value := #[.bool (b 0), .bool (b 1), .bool (b 2), .bool (b 3), .bool (b 4), .bool (b 5), .bool (b 6), .bool (b 7)]

def yesB (b : Nat → Bool) (f : Nat) : Nat → Bool := fun i => if i = f then true else b i

theorem boolA_set (b : Nat → Bool) (f : Nat) (h : f < 8) : (boolA b).setIfInBounds f (.bool true) = boolA (yesB b f) := by
  match f, h with
  | 0, _ | 1, _ | 2, _ | 3, _ | 4, _ | 5, _ | 6, _ | 7, _ => simp [boolA, yesB]

theorem boolA_get (b : Nat → Bool) (f : Nat) (h : f < 8) : (boolA b)[f]? = some (.bool (b f)) := by
  match f, h with
  | 0, _ | 1, _ | 2, _ | 3, _ | 4, _ | 5, _ | 6, _ | 7, _ => simp [boolA]

theorem frozen_row {w : World} {g : Nat} {C : Array Value} {t : TypeId} (h : w.heap[g]? = some (.cells C t (0, 0))) (i : Nat) : w.frozen? ⟨g, i, none⟩ = false := by simp [World.frozen?, h]

theorem index_bools (b : Nat → Bool) (k : Nat) (h : k < 8) (W : World) : (Instr.index 112 (.agg (boolA b)) (.int .i64 (k : Int))).run Tryd.prog W = .ok (.bool (b k)) W := by
  have h2 : 0 ≤ (k : Int) ∧ (k : Int) < ((8 : Nat) : Int) := by omega
  have hg := boolA_get b k h
  simp [Instr.index, run_underlying Tryd.underlying112, asIntOf, go_sem, Tryd.sizeOf4, Tryd.isAgg4, hg, h]

end Go.Proofs.YtcfjhbcpjpgodaaDoor
