/- Proved here: plain facts on a registry as thirty-four numbers in a row. -/
import Derived.Test.YtcfjhbcpjpgodaaDoorBase
import Derived.WalkKit
import Derived.WalkSpells
import Derived.WalkLawsBesides
import Derived.Laws.Rows
import Derived.Deep.MidRow
namespace Go.Proofs.YtcfjhbcpjpgodaaDoor
open Go.RowKit

/-- A registry's thirty-four numbers: the powers, then the roles. -/
def regL (x : Nat → Int) : List Value := (List.range 34).map fun i => .int .i64 (x i)
def regA (x : Nat → Int) : Array Value := (regL x).toArray

theorem regA_size (x : Nat → Int) : (regA x).size = 34 := by simp [regA, regL]
theorem regA_get (x : Nat → Int) (i : Nat) (h : i < 34) : (regA x)[i]? = some (.int .i64 (x i)) := by
  simp [regA, regL, h]

/-- One number turned. -/
def upd (x : Nat → Int) (k : Nat) (v : Int) : Nat → Int := fun i => if i = k then v else x i

theorem upd_same (x : Nat → Int) (k : Nat) (v : Int) : upd x k v k = v := by simp [upd]
theorem upd_other (x : Nat → Int) (k i : Nat) (v : Int) (h : i ≠ k) : upd x k v i = x i := by simp [upd, h]

theorem regA_set (x : Nat → Int) (k : Nat) (v : Int) (h : k < 34) : (regA x).setIfInBounds k (.int .i64 v) = regA (upd x k v) := by
  apply Array.ext_getElem?
  intro i
  by_cases hi : i < 34
  · rw [regA_get _ i hi, Array.getElem?_setIfInBounds]
    by_cases e : k = i
    · subst e
      rw [if_pos rfl, if_pos (by rw [regA_size]; exact h), upd_same]
    · rw [if_neg e, regA_get _ i hi, upd_other _ _ _ _ (fun h => e h.symm)]
  · rw [Array.getElem?_eq_none (by simp [regA_size]; omega), Array.getElem?_eq_none (by rw [regA_size]; omega)]

/-- A registry lies in block g, of whatever type. -/
def RegAt (w : World) (g : Nat) (t : TypeId) (x : Nat → Int) : Prop := w.heap[g]? = some (.cells (regA x) t (0, 0))

theorem RegAt.lt {w : World} {g : Nat} {t : TypeId} {x : Nat → Int} (h : RegAt w g t x) : g < w.heap.size := by
  rcases Nat.lt_or_ge g w.heap.size with h' | h'
  · exact h'
  · unfold RegAt at h
    simp [Array.getElem?_eq_none h'] at h
theorem RegAt.alloc (w : World) (t : TypeId) (x : Nat → Int) : RegAt (w.alloc (.cells (regA x) t)) w.heap.size t x := heap_alloc_new w _
theorem RegAt.later {w w' : World} {B g : Nat} {t : TypeId} {x : Nat → Int} (h : RegAt w g t x) (hb : Below B w w') (hg : g < B) : RegAt w' g t x := by
  unfold RegAt at h ⊢
  rw [hb.block g hg]
  exact h
theorem RegAt.cell {w : World} {g : Nat} {t : TypeId} {x : Nat → Int} (h : RegAt w g t x) (i : Nat) (hi : i < 34) : w.cell? ⟨g, i, none⟩ = some (.int .i64 (x i)) := by
  rw [cell_of_row w g i _ t _ h, regA_get x i hi]
theorem RegAt.frozen {w : World} {g : Nat} {t : TypeId} {x : Nat → Int} (h : RegAt w g t x) (i : Nat) : w.frozen? ⟨g, i, none⟩ = false := by
  unfold RegAt at h
  simp [World.frozen?, h]
theorem RegAt.set {w : World} {g : Nat} {t : TypeId} {x : Nat → Int} (h : RegAt w g t x) (k : Nat) (v : Int) (hk : k < 34) : RegAt (w.setCell ⟨g, k, none⟩ (.int .i64 v)) g t (upd x k v) := by
  unfold RegAt at h ⊢
  rw [← regA_set x k v hk]
  simp [World.setCell, Array.getElem?_modify, h]

/-- The power of all. -/
def sumTo (x : Nat → Int) : Nat → Int
  | 0 => 0
  | n + 1 => sumTo x n + x n

theorem sumTo_bound (x : Nat → Int) (n : Nat) (h : ∀ i, i < n → 0 ≤ x i ∧ x i ≤ 9) : 0 ≤ sumTo x n ∧ sumTo x n ≤ 9 * n := by
  induction n with
  | zero => simp [sumTo]
  | succ n ih =>
    have h1 := ih fun i hi => h i (by omega)
    have h2 := h n (by omega)
    simp only [sumTo]
    omega

end Go.Proofs.YtcfjhbcpjpgodaaDoor
