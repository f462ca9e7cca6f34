/- Proved here: what the document's Next answers at every text that has the form of a record. -/
import Derived.Test.YtcfjhbcpjpgodaaGreatDoorJ7
import Derived.Test.YtcfjhbcpjpgodaaGreatDoorJ8
import Derived.ChangeKeysEq
namespace Go.Proofs.YtcfjhbcpjpgodaaGreatDoor
open Go.RowKit

def nextR (x : Nat → Int) (c0 c1 c2 : Int) : (Nat → Int) × Bool :=
 if c0 = 118 then (upd x (c1 - 48).toNat (c2 - 48), decide (0 < sumTo (upd x (c1 - 48).toNat (c2 - 48)) 8) && decide (x (c1 - 48).toNat ≠ c2 - 48))
 else if c0 = 108 then (upd x (8 + (c1 - 97).toNat) 0, decide (x (8 + (c1 - 97).toNat) ≠ 0) && decide (x (8 + (c1 - 97).toNat) ≠ 0))
 else if c0 = 106 then (upd x (8 + (c1 - 97).toNat) (c2 - 48), decide (x (8 + (c1 - 97).toNat) = 0) && decide (x (8 + (c1 - 97).toNat) ≠ c2 - 48))
 else (upd x (8 + (c1 - 97).toNat) (c2 - 48), decide (x (8 + (c1 - 97).toNat) ≠ 0) && decide (x (8 + (c1 - 97).toNat) ≠ c2 - 48))

def nextT (x : Nat → Int) (t : ByteArray) : (Nat → Int) × Bool := nextR x (byt t 0) (byt t 1) (byt t 2)

def Dom (x : Nat → Int) : Prop := ∀ i, 0 ≤ x i ∧ x i ≤ 9

theorem Dom.set {x : Nat → Int} (h : Dom x) (k : Nat) (v : Int) (h0 : 0 ≤ v) (h1 : v ≤ 9) : Dom (upd x k v) := by
 intro i
 unfold upd
 split
 · exact ⟨h0, h1⟩
 · exact h i

theorem Dom.next {x : Nat → Int} {t : ByteArray} (h : Dom x) (hf : formB t = true) : Dom (nextT x t).1 := by
 have hf' := of_decide_eq_true hf
 unfold nextT nextR
 split
 · exact h.set _ _ (by omega) (by omega)
 · split
   · exact h.set _ _ (by omega) (by omega)
   · split
     · exact h.set _ _ (by omega) (by omega)
     · exact h.set _ _ (by omega) (by omega)

def behindL : (Nat → Int) → List ByteArray → (Nat → Int) × Bool
 | x, [] => (x, true)
 | x, t :: l => if (nextT x t).2 then behindL (nextT x t).1 l else ((nextT x t).1, false)
def goOn (y : Nat → Int) (o : Bool) (l : List ByteArray) : (Nat → Int) × Bool := if o then behindL y l else (y, false)
def behindR (x : Nat → Int) (b : ByteArray) : (Nat → Int) × Bool := goOn x (splitR b).2 (splitR b).1

theorem splitR_form (b : ByteArray) (k : Nat) (hk : k < (splitR b).1.length) : formB ((splitR b).1.getD k ByteArray.empty) = true := by
 unfold splitR at hk ⊢
 split at hk
 · simp at hk
 · rename_i h0
   rw [if_neg h0]
   split at hk
   · rename_i h1
     rw [if_pos h1]
     simp only at hk ⊢
     rw [List.getD_eq_getElem?_getD, List.getElem?_eq_getElem hk]
     exact List.all_eq_true.1 h1 _ (List.getElem_mem hk)
   · simp at hk

theorem Dom.zero : Dom reg0 := fun _ => by simp [reg0]
theorem Dom.gen (g : Nat → Int) (n : Nat) : Dom (genR g n).1 := by
 unfold genR
 split
 · rename_i h
   intro i
   simp only [regOf]
   split
   · exact h.2 i (by assumption)
   · omega
 · exact Dom.zero
theorem Dom.behindL : ∀ (l : List ByteArray) (x : Nat → Int), Dom x → (∀ t ∈ l, formB t = true) → Dom (behindL x l).1
 | [], x, h, _ => h
 | t :: l, x, h, hl => by
  unfold Go.Proofs.YtcfjhbcpjpgodaaGreatDoor.behindL
  split
  · exact Dom.behindL l _ (h.next (hl t (by simp))) (fun t ht => hl t (by simp [ht]))
  · exact h.next (hl t (by simp))
theorem Dom.behind {x : Nat → Int} (b : ByteArray) (h : Dom x) : Dom (behindR x b).1 := by
 unfold behindR goOn
 split
 · refine Dom.behindL _ x h (fun t ht => ?_)
   obtain ⟨k, hk, rfl⟩ := List.getElem_of_mem ht
   have := splitR_form b k hk
   rw [List.getD_eq_getElem?_getD, List.getElem?_eq_getElem hk] at this
   exact this
 · exact h

end Go.Proofs.YtcfjhbcpjpgodaaGreatDoor
