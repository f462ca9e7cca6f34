/- Proved here: plain facts on the registry behind a block: record by record, in the program's words. -/
import Derived.Test.YtcfjhbcpjpgodaaDoorProgGen
import Derived.Test.YtcfjhbcpjpgodaaDoorCutsSplit
import Derived.Test.YtcfjhbcpjpgodaaDoorRefFold
namespace Go.Proofs.YtcfjhbcpjpgodaaDoor
open Go.RowKit

theorem behind_empty (x : Nat → Int) (s : ByteArray) (h : s.size = 0) : behindR x s = (x, true) := by
  unfold behindR splitR
  rw [if_pos h]
  rfl

theorem behind_many (x : Nat → Int) (s : ByteArray) (h : s.size ≠ 0) (h3 : 3 < (cuts s 0 0).length) : (behindR x s).2 = false := by
  unfold behindR splitR
  rw [if_neg h]
  split
  · rw [decide_eq_false (by omega)]; rfl
  · rfl

theorem behind_form (x : Nat → Int) (s : ByteArray) (h : s.size ≠ 0) (k : Nat) (hk : k < (cuts s 0 0).length) (hf : formB ((cuts s 0 0).getD k ByteArray.empty) = false) : (behindR x s).2 = false := by
  unfold behindR splitR
  rw [if_neg h, if_neg]
  · rfl
  · intro ha
    have := List.all_eq_true.1 ha _ (List.getElem_mem hk)
    rw [List.getD_eq_getElem?_getD, List.getElem?_eq_getElem hk] at hf
    simp only [Option.getD_some] at hf
    rw [hf] at this
    cases this

theorem behind_next (x : Nat → Int) (s : ByteArray) (h : s.size ≠ 0) (hf : (behindL x (cuts s 0 0)).2 = false) : (behindR x s).2 = false := by
  unfold behindR splitR
  rw [if_neg h]
  split
  · unfold goOn
    split
    · exact hf
    · rfl
  · rfl

theorem behind_votes (x : Nat → Int) (s : ByteArray) (h : s.size ≠ 0) (hv : 2 ≤ votes (cuts s 0 0)) : (behindR x s).2 = false := by
  unfold behindR splitR
  rw [if_neg h]
  split
  · rw [decide_eq_false (p := votes (cuts s 0 0) < 2) (by omega), Bool.and_false]; rfl
  · rfl

theorem behind_good (x y : Nat → Int) (s : ByteArray) (h : s.size ≠ 0) (h3 : (cuts s 0 0).length ≤ 3) (ha : (cuts s 0 0).all formB = true) (hv : votes (cuts s 0 0) < 2) (hy : behindL x (cuts s 0 0) = (y, true)) : behindR x s = (y, true) := by
  unfold behindR splitR
  rw [if_neg h, if_pos ha]
  simp only
  rw [decide_eq_true h3, decide_eq_true hv]
  exact hy

/-- One record on. -/
theorem behindL_step (y : Nat → Int) (l : List ByteArray) (k : Nat) (hk : k < l.length) (t : ByteArray) (ht : t = l.getD k ByteArray.empty) : behindL y (l.drop k) = if (nextT y t).2 then behindL (nextT y t).1 (l.drop (k + 1)) else ((nextT y t).1, false) := by
  have e : l.drop k = t :: l.drop (k + 1) := by
    rw [ht, List.drop_eq_getElem_cons hk, List.getD_eq_getElem?_getD, List.getElem?_eq_getElem hk]
    rfl
  rw [e]
  rfl

theorem take_step (l : List ByteArray) (k : Nat) (hk : k < l.length) (t : ByteArray) (ht : t = l.getD k ByteArray.empty) : l.take (k + 1) = l.take k ++ [t] := by
  rw [ht, List.getD_eq_getElem?_getD, List.getElem?_eq_getElem hk, Option.getD_some, List.take_append_getElem hk]

/-- The document's Next in the program's words. -/
theorem next_prog (y : Nat → Int) (t : ByteArray) (hf : formB t = true) :
    nextT y t = (upd y (spot (byt t 0) (idxN (byt t 0) (byt t 1)).toNat) (numN (byt t 0) (byt t 2)), mayB y (byt t 0) (idxN (byt t 0) (byt t 1)).toNat (numN (byt t 0) (byt t 2))) := by
  have hf' := of_decide_eq_true hf
  unfold nextT nextR mayB spot idxN numN
  rcases hf' with ⟨hn, h0, h1, h2⟩ | ⟨hn, h0, h1, h2, h3, h4⟩ | ⟨hn, h0, h1, h2, h3, h4⟩
  · rw [h0]
    simp
  · rcases h0 with h0 | h0
    · rw [h0]
      simp
      omega
    · rw [h0]
      simp
  · rw [h0]
    simp [Bool.and_comm]

/-- Where a record that has the form points. -/
theorem form_spots (t : ByteArray) (hf : formB t = true) :
    (byt t 0 = 106 ∨ byt t 0 = 108 ∨ byt t 0 = 114 ∨ byt t 0 = 118) ∧ (byt t 0 = 118 → (idxN (byt t 0) (byt t 1)).toNat < 8) ∧ (byt t 0 ≠ 118 → (idxN (byt t 0) (byt t 1)).toNat < 26) ∧ 0 ≤ numN (byt t 0) (byt t 2) ∧ numN (byt t 0) (byt t 2) ≤ 9 ∧ idxN (byt t 0) (byt t 1) = (((idxN (byt t 0) (byt t 1)).toNat : Nat) : Int) := by
  have hf' := of_decide_eq_true hf
  unfold idxN numN
  rcases hf' with ⟨hn, h0, h1, h2⟩ | ⟨hn, h0, h1, h2, h3, h4⟩ | ⟨hn, h0, h1, h2, h3, h4⟩
  · rw [h0]
    simp
    omega
  · rcases h0 with h0 | h0
    · rw [h0]
      simp
      omega
    · rw [h0]
      simp
      omega
  · rw [h0]
    simp
    omega

end Go.Proofs.YtcfjhbcpjpgodaaDoor
