/- Proved here: what a frame says, as a function of its bytes; the document's Decode in its words. -/
import Derived.Test.YtcfjhbcpjpgodaaDoorJ11
namespace Go.Proofs.YtcfjhbcpjpgodaaDoor
open Go.RowKit

/-- A message. -/
structure MsgV where
  k : Int
  h : Int
  r : Int
  f : Int
  v : Int
  nl : Bool
  s : ByteArray

def MsgV.cells (m : MsgV) : Array Value := #[.int .i64 m.k, .int .i64 m.h, .int .i64 m.r, .int .i64 m.f, .int .i64 m.v, .bool m.nl, .string m.s]
def msg0 : MsgV := ⟨0, 0, 0, 0, 0, false, ⟨#[]⟩⟩

/-- Is it a frame? What it says. -/
def decOk (t : ByteArray) : Bool := decide (6 ≤ t.size) && decB (byt t 0) (byt t 1) (byt t 2) (byt t 3) (byt t 4) (byt t 5) (t.extract 6 t.size).size
def decV (t : ByteArray) : MsgV := if decOk t then ⟨byt t 0, byt t 1, byt t 2, byt t 3, vOf (byt t 0) (byt t 4), nlOf (byt t 0) (byt t 4), t.extract 6 t.size⟩ else msg0

theorem decV_ok {t : ByteArray} (h : decOk t = true) : 0 ≤ (decV t).h ∧ (decV t).h < 12 ∧ 0 ≤ (decV t).r ∧ (decV t).r ≤ 255 ∧ 0 ≤ (decV t).f ∧ (decV t).f < 8 ∧ (decV t).s.size ≤ 24 ∧ 1 ≤ (decV t).k ∧ (decV t).k ≤ 3 := by
  have h2 := h
  unfold decOk decB at h2
  simp only [Bool.and_eq_true] at h2
  have h3 := of_decide_eq_true h2.2.1.1
  unfold decV
  rw [if_pos h]
  simp only
  omega

theorem decV_size (t : ByteArray) : (decV t).s.size ≤ t.size := by
  unfold decV
  split
  · simp only [ByteArray.size_extract]
    omega
  · exact Nat.zero_le _

theorem refDecode_at (t : ByteArray) (w : World) (hs : t.size ≤ maxLen) :
    Calls Tryd.prog 13 #[.string t] w fun e w' => e = .returned (.tuple #[.agg (decV t).cells, .bool (decOk t)]) ∧ Below w.heap.size w w' := by
  by_cases h6 : 6 ≤ t.size
  · have h := refDecode_any t _ _ _ _ _ _ _ w hs (parts_byt t h6)
    have e1 : decOk t = decB (byt t 0) (byt t 1) (byt t 2) (byt t 3) (byt t 4) (byt t 5) (t.extract 6 t.size).size := by unfold decOk; rw [decide_eq_true h6]; rfl
    unfold decM at h
    unfold decV
    rw [e1]
    cases hd : decB (byt t 0) (byt t 1) (byt t 2) (byt t 3) (byt t 4) (byt t 5) (t.extract 6 t.size).size with
    | true =>
      rw [hd] at h
      exact h
    | false =>
      rw [hd] at h
      exact h
  · have e1 : decOk t = false := by unfold decOk; rw [decide_eq_false h6]; rfl
    unfold decV
    rw [e1]
    exact refDecode_short t w (by omega)

end Go.Proofs.YtcfjhbcpjpgodaaDoor
