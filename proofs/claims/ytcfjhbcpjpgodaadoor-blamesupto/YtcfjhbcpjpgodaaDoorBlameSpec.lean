/- Proved here: plain facts on whom the document blames. -/
import Derived.Test.YtcfjhbcpjpgodaaDoorDecV
import Derived.Test.YtcfjhbcpjpgodaaDoorRingModel
namespace Go.Proofs.YtcfjhbcpjpgodaaDoor
open Go.RowKit

/-- Do two frames blame an id? -/
def pairB (sg : Nat → List ByteArray) (n : Nat) (id : Nat) (a b : ByteArray) : Prop :=
  decOk a = true ∧ decOk b = true ∧ (decV a).f = id ∧ (decV b).f = id ∧ (decV a).k = 3 ∧ (decV b).k = 3 ∧ (decV a).h = (decV b).h ∧ (decV a).r = (decV b).r ∧ signedB sg n id a = true ∧ signedB sg n id b = true ∧ a ≠ b

/-- Of frames by number: do two of them blame the id, of those that come ahead of i and k? -/
def BadTo (sg : Nat → List ByteArray) (n id : Nat) (fr : Nat → ByteArray) (i k : Nat) : Prop := ∃ x y, y < x ∧ (x < i ∨ x = i ∧ y < k) ∧ pairB sg n id (fr x) (fr y)

theorem BadTo.zero {sg : Nat → List ByteArray} {n id : Nat} {fr : Nat → ByteArray} : ¬ BadTo sg n id fr 0 0 := by
  rintro ⟨x, y, h1, h2, _⟩
  omega
theorem BadTo.next {sg : Nat → List ByteArray} {n id : Nat} {fr : Nat → ByteArray} {i : Nat} : BadTo sg n id fr i i ↔ BadTo sg n id fr (i + 1) 0 := by
  constructor
  · rintro ⟨x, y, h1, h2, h3⟩
    exact ⟨x, y, h1, by omega, h3⟩
  · rintro ⟨x, y, h1, h2, h3⟩
    exact ⟨x, y, h1, by omega, h3⟩
theorem BadTo.step {sg : Nat → List ByteArray} {n id : Nat} {fr : Nat → ByteArray} {i k : Nat} (hk : k < i) : BadTo sg n id fr i (k + 1) ↔ BadTo sg n id fr i k ∨ pairB sg n id (fr i) (fr k) := by
  constructor
  · rintro ⟨x, y, h1, h2, h3⟩
    by_cases e : x = i ∧ y = k
    · obtain ⟨rfl, rfl⟩ := e
      exact Or.inr h3
    · exact Or.inl ⟨x, y, h1, by omega, h3⟩
  · rintro (⟨x, y, h1, h2, h3⟩ | h)
    · exact ⟨x, y, h1, by omega, h3⟩
    · exact ⟨i, k, hk, Or.inr ⟨rfl, by omega⟩, h⟩

/-- Do two frames blame an id? (told) -/
def pairBb (sg : Nat → List ByteArray) (n : Nat) (id : Nat) (a b : ByteArray) : Bool :=
  decOk a && decOk b && decide ((decV a).f = id ∧ (decV b).f = id ∧ (decV a).k = 3 ∧ (decV b).k = 3 ∧ (decV a).h = (decV b).h ∧ (decV a).r = (decV b).r) && signedB sg n id a && signedB sg n id b && !(a.data == b.data)
theorem pairBb_iff (sg : Nat → List ByteArray) (n : Nat) (id : Nat) (a b : ByteArray) : pairBb sg n id a b = true ↔ pairB sg n id a b := by
  unfold pairBb pairB
  simp only [Bool.and_eq_true, decide_eq_true_eq, Bool.not_eq_true', beq_eq_false_iff_ne]
  constructor
  · rintro ⟨⟨⟨⟨⟨h1, h2⟩, h3, h4, h5, h6, h7, h8⟩, h9⟩, h10⟩, h11⟩
    exact ⟨h1, h2, h3, h4, h5, h6, h7, h8, h9, h10, fun e => h11 (by rw [e])⟩
  · rintro ⟨h1, h2, h3, h4, h5, h6, h7, h8, h9, h10, h11⟩
    exact ⟨⟨⟨⟨⟨h1, h2⟩, h3, h4, h5, h6, h7, h8⟩, h9⟩, h10⟩, fun e => h11 (ByteArray.ext e)⟩
def badB (sg : Nat → List ByteArray) (n id : Nat) (fr : Nat → ByteArray) (m : Nat) : Bool := (List.range m).any fun x => (List.range x).any fun y => pairBb sg n id (fr x) (fr y)
theorem badB_iff (sg : Nat → List ByteArray) (n id : Nat) (fr : Nat → ByteArray) (m : Nat) : badB sg n id fr m = true ↔ BadTo sg n id fr m 0 := by
  unfold badB BadTo
  simp only [List.any_eq_true, List.mem_range, pairBb_iff]
  constructor
  · rintro ⟨x, hx, y, hy, h⟩
    exact ⟨x, y, hy, Or.inl hx, h⟩
  · rintro ⟨x, y, hy, hx, h⟩
    exact ⟨x, by omega, y, hy, h⟩

/-- Whom the document blames. -/
def blameL (sg : Nat → List ByteArray) (n : Nat) (fr : Nat → ByteArray) (m : Nat) (top : Nat) : List Nat := (List.range top).filter fun id => badB sg n id fr m

theorem blameL_yes {sg : Nat → List ByteArray} {n : Nat} {fr : Nat → ByteArray} {m id : Nat} (h : BadTo sg n id fr m 0) : blameL sg n fr m (id + 1) = blameL sg n fr m id ++ [id] := by
  unfold blameL
  rw [List.range_succ, List.filter_append]
  simp [(badB_iff sg n id fr m).2 h]
theorem blameL_no {sg : Nat → List ByteArray} {n : Nat} {fr : Nat → ByteArray} {m id : Nat} (h : ¬ BadTo sg n id fr m 0) : blameL sg n fr m (id + 1) = blameL sg n fr m id := by
  have e : badB sg n id fr m = false := Bool.eq_false_iff.2 fun e => h ((badB_iff sg n id fr m).1 e)
  unfold blameL
  rw [List.range_succ, List.filter_append]
  simp [e]
theorem blameL_len (sg : Nat → List ByteArray) (n : Nat) (fr : Nat → ByteArray) (m top : Nat) : (blameL sg n fr m top).length ≤ top := by
  have := List.length_filter_le (fun id => badB sg n id fr m) (List.range top)
  unfold blameL
  simpa using this

end Go.Proofs.YtcfjhbcpjpgodaaDoor
