/- Proved here: powers and roles stay 0 to 9; the document's Genesis and Behind, their answers named. -/
import Derived.Test.YtcfjhbcpjpgodaaDoorRefBehind
namespace Go.Proofs.YtcfjhbcpjpgodaaDoor
open Go.RowKit

theorem Dom.zero : Dom reg0 := fun _ => by simp [reg0]
theorem Dom.gen (g : Nat → Int) (n : Nat) : Dom (genR g n).1 := by
  unfold genR
  split
  · rename_i h
    intro i
    simp only [regOf]
    split
    · exact h.2 i (by assumption)
    · omega
  · exact Dom.zero
theorem Dom.behindL : ∀ (l : List ByteArray) (x : Nat → Int), Dom x → (∀ t ∈ l, formB t = true) → Dom (behindL x l).1
  | [], x, h, _ => h
  | t :: l, x, h, hl => by
    unfold Go.Proofs.YtcfjhbcpjpgodaaDoor.behindL
    split
    · exact Dom.behindL l _ (h.next (hl t (by simp))) (fun t ht => hl t (by simp [ht]))
    · exact h.next (hl t (by simp))
theorem Dom.behind {x : Nat → Int} (b : ByteArray) (h : Dom x) : Dom (behindR x b).1 := by
  unfold behindR goOn
  split
  · refine Dom.behindL _ x h (fun t ht => ?_)
    obtain ⟨k, hk, rfl⟩ := List.getElem_of_mem ht
    have := splitR_form b k hk
    rw [List.getD_eq_getElem?_getD, List.getElem?_eq_getElem hk] at this
    exact this
  · exact h

theorem behind_at (x : Nat → Int) (b : ByteArray) (z : Nat → Int) (o : Bool) (w : World) (hx : Dom x) (hs : b.size < 4294967281) (h : behindR x b = (z, o)) :
    Calls Tryd.prog 42 #[.agg (regA x), .string b] w fun e w' => e = .returned (.tuple #[.agg (regA z), .bool o]) ∧ Below w.heap.size w w' := by
  have := behind_any x b w hx hs
  rw [h] at this
  exact this

theorem genesis_at (g : Nat → Int) (p : Option Addr) (n cap : Nat) (z : Nat → Int) (o : Bool) (w : World) (hl : Lies w w.heap.size p n (fun i => .int .i64 (g i))) (h : genR g n = (z, o)) :
    Calls Tryd.prog 27 #[.slice p n cap] w fun e w' => e = .returned (.tuple #[.agg (regA z), .bool o]) ∧ Below w.heap.size w w' := by
  have := genesis_any g p n cap w hl
  rw [h] at this
  exact this

end Go.Proofs.YtcfjhbcpjpgodaaDoor
