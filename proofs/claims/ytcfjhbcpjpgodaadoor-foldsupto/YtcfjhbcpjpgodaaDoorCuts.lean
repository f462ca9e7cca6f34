/- Proved here: plain facts on how a text is cut at its commas. -/
import Derived.Test.YtcfjhbcpjpgodaaDoorRefForm
import Derived.Lib.Strings
namespace Go.Proofs.YtcfjhbcpjpgodaaDoor
open Go.RowKit

/-- The pieces of a text from i on, the first begun at fr; n steps at the most. -/
def cutsN (b : ByteArray) : Nat → Nat → Nat → List ByteArray
  | 0, _, _ => []
  | n + 1, fr, i => if i < b.size then (if byt b i = 44 then b.extract fr i :: cutsN b n (i + 1) (i + 1) else cutsN b n fr (i + 1)) else if i = b.size then [b.extract fr i] else []
/-- The pieces of a text from i on, the first begun at fr. -/
def cuts (b : ByteArray) (fr i : Nat) : List ByteArray := cutsN b (b.size + 1 - i) fr i

theorem cuts_go (b : ByteArray) (fr i : Nat) (h : i < b.size) (h2 : byt b i ≠ 44) : cuts b fr i = cuts b fr (i + 1) := by
  unfold cuts
  rw [show b.size + 1 - i = (b.size + 1 - (i + 1)) + 1 by omega, cutsN, if_pos h, if_neg h2]
theorem cuts_at (b : ByteArray) (fr i : Nat) (h : i < b.size) (h2 : byt b i = 44) : cuts b fr i = b.extract fr i :: cuts b (i + 1) (i + 1) := by
  unfold cuts
  rw [show b.size + 1 - i = (b.size + 1 - (i + 1)) + 1 by omega, cutsN, if_pos h, if_pos h2]
theorem cuts_out (b : ByteArray) (fr i : Nat) (h : b.size < i) : cuts b fr i = [] := by
  unfold cuts
  rw [show b.size + 1 - i = 0 by omega, cutsN]
theorem cuts_end (b : ByteArray) (fr : Nat) : cuts b fr b.size = b.extract fr b.size :: cuts b (b.size + 1) (b.size + 1) := by
  rw [cuts_out b _ (b.size + 1) (by omega)]
  unfold cuts
  rw [show b.size + 1 - b.size = 0 + 1 by omega, cutsN, if_neg (by omega), if_pos rfl]

theorem byt_piece (b : ByteArray) (fr i j : Nat) (h : fr + j < i) : byt (b.extract fr i) j = byt b (fr + j) := by
  unfold byt
  rw [Lib.extract_data]
  rw [List.getD_eq_getElem?_getD, List.getD_eq_getElem?_getD, List.getElem?_take, if_pos (by omega), List.getElem?_drop]

theorem size_piece (b : ByteArray) (fr i : Nat) (h : i ≤ b.size) : (b.extract fr i).size = i - fr := by
  simp [ByteArray.size_extract]; omega

/-- How many of the records vote on a power. -/
def votes : List ByteArray → Nat
  | [] => 0
  | t :: l => votes l + if byt t 0 = 118 then 1 else 0

theorem votes_append (a : List ByteArray) (t : ByteArray) : votes (a ++ [t]) = votes a + if byt t 0 = 118 then 1 else 0 := by
  induction a with
  | nil => simp [votes]
  | cons x l ih => simp only [List.cons_append, votes, ih]; omega
theorem votes_le (a : List ByteArray) : votes a ≤ a.length := by
  induction a with
  | nil => simp [votes]
  | cons x l ih => simp only [votes, List.length_cons]; split <;> omega

/-- The records of a block, and has it the form of one? -/
def splitR (b : ByteArray) : List ByteArray × Bool :=
  if b.size = 0 then ([], true) else if (cuts b 0 0).all formB then (cuts b 0 0, decide ((cuts b 0 0).length ≤ 3) && decide (votes (cuts b 0 0) < 2)) else ([], false)

theorem splitR_bad (b : ByteArray) (done rest : List ByteArray) (t : ByteArray) (hb : b.size ≠ 0) (h : cuts b 0 0 = done ++ t :: rest) (hf : formB t = false) : splitR b = ([], false) := by
  unfold splitR
  rw [if_neg hb, if_neg (by rw [h]; simp [hf])]
theorem splitR_good (b : ByteArray) (done : List ByteArray) (hb : b.size ≠ 0) (h : cuts b 0 0 = done) (hf : done.all formB = true) : splitR b = (done, decide (done.length ≤ 3) && decide (votes done < 2)) := by
  unfold splitR
  rw [if_neg hb, h, if_pos hf]

end Go.Proofs.YtcfjhbcpjpgodaaDoor
