/- Proved here: plain facts on a registry as thirty-four numbers in a row. -/
import Derived.Test.YtcfjhbcpjpgodaaGreatDoorBase
import Derived.WalkKit
import Derived.WalkSpells
import Derived.WalkLawsBesides
import Derived.Laws.Rows
import Derived.Deep.MidRow
import Derived.Laws.Strings
import Derived.Lib.Strings
import Derived.OwnWalk
namespace Go.Proofs.YtcfjhbcpjpgodaaGreatDoor
open Go.RowKit

def regL (x : Nat → Int) : List Value := (List.range 34).map fun i => .int .i64 (x i)
def regA (x : Nat → Int) : Array Value := (regL x).toArray

theorem regA_size (x : Nat → Int) : (regA x).size = 34 := by simp [regA, regL]
theorem regA_get (x : Nat → Int) (i : Nat) (h : i < 34) : (regA x)[i]? = some (.int .i64 (x i)) := by
 simp [regA, regL, h]

def upd (x : Nat → Int) (k : Nat) (v : Int) : Nat → Int := fun i => if i = k then v else x i

theorem upd_same (x : Nat → Int) (k : Nat) (v : Int) : upd x k v k = v := by simp [upd]
theorem upd_other (x : Nat → Int) (k i : Nat) (v : Int) (h : i ≠ k) : upd x k v i = x i := by simp [upd, h]

theorem regA_set (x : Nat → Int) (k : Nat) (v : Int) (h : k < 34) : (regA x).setIfInBounds k (.int .i64 v) = regA (upd x k v) := by
 apply Array.ext_getElem?
 intro i
 by_cases hi : i < 34
 · rw [regA_get _ i hi, Array.getElem?_setIfInBounds]
   by_cases e : k = i
   · subst e
     rw [if_pos rfl, if_pos (by rw [regA_size]; exact h), upd_same]
   · rw [if_neg e, regA_get _ i hi, upd_other _ _ _ _ (fun h => e h.symm)]
 · rw [Array.getElem?_eq_none (by simp [regA_size]; omega), Array.getElem?_eq_none (by rw [regA_size]; omega)]

def RegAt (w : World) (g : Nat) (t : TypeId) (x : Nat → Int) : Prop := w.heap[g]? = some (.cells (regA x) t (0, 0))

theorem RegAt.lt {w : World} {g : Nat} {t : TypeId} {x : Nat → Int} (h : RegAt w g t x) : g < w.heap.size := by
 rcases Nat.lt_or_ge g w.heap.size with h' | h'
 · exact h'
 · unfold RegAt at h
   simp [Array.getElem?_eq_none h'] at h
theorem RegAt.alloc (w : World) (t : TypeId) (x : Nat → Int) : RegAt (w.alloc (.cells (regA x) t)) w.heap.size t x := heap_alloc_new w _
theorem RegAt.later {w w' : World} {B g : Nat} {t : TypeId} {x : Nat → Int} (h : RegAt w g t x) (hb : Below B w w') (hg : g < B) : RegAt w' g t x := by
 unfold RegAt at h ⊢
 rw [hb.block g hg]
 exact h
theorem RegAt.cell {w : World} {g : Nat} {t : TypeId} {x : Nat → Int} (h : RegAt w g t x) (i : Nat) (hi : i < 34) : w.cell? ⟨g, i, none⟩ = some (.int .i64 (x i)) := by
 rw [cell_of_row w g i _ t _ h, regA_get x i hi]
theorem RegAt.frozen {w : World} {g : Nat} {t : TypeId} {x : Nat → Int} (h : RegAt w g t x) (i : Nat) : w.frozen? ⟨g, i, none⟩ = false := by
 unfold RegAt at h
 simp [World.frozen?, h]
theorem RegAt.set {w : World} {g : Nat} {t : TypeId} {x : Nat → Int} (h : RegAt w g t x) (k : Nat) (v : Int) (hk : k < 34) : RegAt (w.setCell ⟨g, k, none⟩ (.int .i64 v)) g t (upd x k v) := by
 unfold RegAt at h ⊢
 rw [← regA_set x k v hk]
 simp [World.setCell, Array.getElem?_modify, h]

def sumTo (x : Nat → Int) : Nat → Int
 | 0 => 0
 | n + 1 => sumTo x n + x n

theorem sumTo_bound (x : Nat → Int) (n : Nat) (h : ∀ i, i < n → 0 ≤ x i ∧ x i ≤ 9) : 0 ≤ sumTo x n ∧ sumTo x n ≤ 9 * n := by
 induction n with
 | zero => simp [sumTo]
 | succ n ih =>
  have h1 := ih fun i hi => h i (by omega)
  have h2 := h n (by omega)
  simp only [sumTo]
  omega

def formN (n : Nat) (c0 c1 c2 : Int) : Bool :=
 decide ((n = 2 ∧ c0 = 108 ∧ 97 ≤ c1 ∧ c1 ≤ 122) ∨ (n = 3 ∧ (c0 = 106 ∨ c0 = 114) ∧ 97 ≤ c1 ∧ c1 ≤ 122 ∧ 49 ≤ c2 ∧ c2 ≤ 57) ∨ (n = 3 ∧ c0 = 118 ∧ 48 ≤ c1 ∧ c1 ≤ 55 ∧ 48 ≤ c2 ∧ c2 ≤ 57))
def formB (t : ByteArray) : Bool := formN t.size (byt t 0) (byt t 1) (byt t 2)

def cutsN (b : ByteArray) : Nat → Nat → Nat → List ByteArray
 | 0, _, _ => []
 | n + 1, fr, i => if i < b.size then (if byt b i = 44 then b.extract fr i :: cutsN b n (i + 1) (i + 1) else cutsN b n fr (i + 1)) else if i = b.size then [b.extract fr i] else []
def cuts (b : ByteArray) (fr i : Nat) : List ByteArray := cutsN b (b.size + 1 - i) fr i

theorem cuts_go (b : ByteArray) (fr i : Nat) (h : i < b.size) (h2 : byt b i ≠ 44) : cuts b fr i = cuts b fr (i + 1) := by
 unfold cuts
 rw [show b.size + 1 - i = (b.size + 1 - (i + 1)) + 1 by omega, cutsN, if_pos h, if_neg h2]
theorem cuts_at (b : ByteArray) (fr i : Nat) (h : i < b.size) (h2 : byt b i = 44) : cuts b fr i = b.extract fr i :: cuts b (i + 1) (i + 1) := by
 unfold cuts
 rw [show b.size + 1 - i = (b.size + 1 - (i + 1)) + 1 by omega, cutsN, if_pos h, if_pos h2]
theorem cuts_out (b : ByteArray) (fr i : Nat) (h : b.size < i) : cuts b fr i = [] := by
 unfold cuts
 rw [show b.size + 1 - i = 0 by omega, cutsN]
theorem cuts_end (b : ByteArray) (fr : Nat) : cuts b fr b.size = b.extract fr b.size :: cuts b (b.size + 1) (b.size + 1) := by
 rw [cuts_out b _ (b.size + 1) (by omega)]
 unfold cuts
 rw [show b.size + 1 - b.size = 0 + 1 by omega, cutsN, if_neg (by omega), if_pos rfl]

theorem byt_piece (b : ByteArray) (fr i j : Nat) (h : fr + j < i) : byt (b.extract fr i) j = byt b (fr + j) := by
 unfold byt
 rw [Lib.extract_data]
 rw [List.getD_eq_getElem?_getD, List.getD_eq_getElem?_getD, List.getElem?_take, if_pos (by omega), List.getElem?_drop]

theorem size_piece (b : ByteArray) (fr i : Nat) (h : i ≤ b.size) : (b.extract fr i).size = i - fr := by
 simp [ByteArray.size_extract]; omega

def votes : List ByteArray → Nat
 | [] => 0
 | t :: l => votes l + if byt t 0 = 118 then 1 else 0

theorem votes_append (a : List ByteArray) (t : ByteArray) : votes (a ++ [t]) = votes a + if byt t 0 = 118 then 1 else 0 := by
 induction a with
 | nil => simp [votes]
 | cons x l ih => simp only [List.cons_append, votes, ih]; omega
theorem votes_le (a : List ByteArray) : votes a ≤ a.length := by
 induction a with
 | nil => simp [votes]
 | cons x l ih => simp only [votes, List.length_cons]; split <;> omega

def splitR (b : ByteArray) : List ByteArray × Bool :=
 if b.size = 0 then ([], true) else if (cuts b 0 0).all formB then (cuts b 0 0, decide ((cuts b 0 0).length ≤ 3) && decide (votes (cuts b 0 0) < 2)) else ([], false)

theorem not_nil_text {b : ByteArray} (h : ¬ b.size = 0) : (b.toList == []) = false := by
 apply Bool.eq_false_iff.2
 intro e
 have e1 : b.toList = [] := by simpa using e
 have e2 : b.toList.length = b.size := by rw [ByteArray.toList_eq]; simp
 rw [e1] at e2
 exact h e2.symm

end Go.Proofs.YtcfjhbcpjpgodaaGreatDoor
