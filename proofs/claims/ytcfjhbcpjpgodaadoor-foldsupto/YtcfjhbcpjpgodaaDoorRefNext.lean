/- Proved here: what the document's Next answers at every text that has the form of a record. -/
import Derived.Test.YtcfjhbcpjpgodaaDoorRefNextV
import Derived.Test.YtcfjhbcpjpgodaaDoorRefNextJ
import Derived.Test.YtcfjhbcpjpgodaaDoorRefNextL
import Derived.Test.YtcfjhbcpjpgodaaDoorRefNextR
namespace Go.Proofs.YtcfjhbcpjpgodaaDoor
open Go.RowKit

/-- The registry behind a record, and may it be? -/
def nextR (x : Nat → Int) (c0 c1 c2 : Int) : (Nat → Int) × Bool :=
  if c0 = 118 then (upd x (c1 - 48).toNat (c2 - 48), decide (0 < sumTo (upd x (c1 - 48).toNat (c2 - 48)) 8) && decide (x (c1 - 48).toNat ≠ c2 - 48))
  else if c0 = 108 then (upd x (8 + (c1 - 97).toNat) 0, decide (x (8 + (c1 - 97).toNat) ≠ 0) && decide (x (8 + (c1 - 97).toNat) ≠ 0))
  else if c0 = 106 then (upd x (8 + (c1 - 97).toNat) (c2 - 48), decide (x (8 + (c1 - 97).toNat) = 0) && decide (x (8 + (c1 - 97).toNat) ≠ c2 - 48))
  else (upd x (8 + (c1 - 97).toNat) (c2 - 48), decide (x (8 + (c1 - 97).toNat) ≠ 0) && decide (x (8 + (c1 - 97).toNat) ≠ c2 - 48))

def nextT (x : Nat → Int) (t : ByteArray) : (Nat → Int) × Bool := nextR x (byt t 0) (byt t 1) (byt t 2)

/-- Powers and roles are 0 to 9. -/
def Dom (x : Nat → Int) : Prop := ∀ i, 0 ≤ x i ∧ x i ≤ 9

theorem Dom.set {x : Nat → Int} (h : Dom x) (k : Nat) (v : Int) (h0 : 0 ≤ v) (h1 : v ≤ 9) : Dom (upd x k v) := by
  intro i
  unfold upd
  split
  · exact ⟨h0, h1⟩
  · exact h i

theorem Dom.next {x : Nat → Int} {t : ByteArray} (h : Dom x) (hf : formB t = true) : Dom (nextT x t).1 := by
  have hf' := of_decide_eq_true hf
  unfold nextT nextR
  split
  · exact h.set _ _ (by omega) (by omega)
  · split
    · exact h.set _ _ (by omega) (by omega)
    · split
      · exact h.set _ _ (by omega) (by omega)
      · exact h.set _ _ (by omega) (by omega)

theorem next_any (x : Nat → Int) (t : ByteArray) (w : World) (hx : Dom x) (hf : formB t = true) :
    Calls Tryd.prog 64 #[.agg (regA x), .string t] w fun e w' => e = .returned (.tuple #[.agg (regA (nextT x t).1), .bool (nextT x t).2]) ∧ Below w.heap.size w w' := by
  have hf' := of_decide_eq_true hf
  have i0 := index_byt t 0 (by omega)
  have i1 := index_byt t 1 (by omega)
  unfold nextT nextR
  rcases hf' with ⟨hn, h0, h1, h2⟩ | ⟨hn, h0, h1, h2, h3, h4⟩ | ⟨hn, h0, h1, h2, h3, h4⟩
  · rw [h0] at i0 ⊢
    rw [if_neg (by omega), if_pos rfl]
    have e1 : byt t 1 = (((byt t 1 - 97).toNat : Nat) : Int) + 97 := by omega
    exact next_l x t (byt t 1 - 97).toNat w (by omega) i0 (by rw [← e1]; exact i1)
  · have i2 := index_byt t 2 (by omega)
    have e1 : byt t 1 = (((byt t 1 - 97).toNat : Nat) : Int) + 97 := by omega
    have e2 : byt t 2 = (((byt t 2 - 48).toNat : Nat) : Int) + 48 := by omega
    have e3 : byt t 2 - 48 = (((byt t 2 - 48).toNat : Nat) : Int) := by omega
    rcases h0 with h0 | h0
    · rw [h0] at i0 ⊢
      rw [if_neg (by omega), if_neg (by omega), if_pos rfl, e3]
      exact next_j x t (byt t 1 - 97).toNat (byt t 2 - 48).toNat w (by omega) i0 (by rw [← e1]; exact i1) (by omega) (by rw [← e2]; exact i2)
    · rw [h0] at i0 ⊢
      rw [if_neg (by omega), if_neg (by omega), if_neg (by omega), e3]
      exact next_r x t (byt t 1 - 97).toNat (byt t 2 - 48).toNat w (by omega) i0 (by rw [← e1]; exact i1) (by omega) (by rw [← e2]; exact i2)
  · have i2 := index_byt t 2 (by omega)
    have e1 : byt t 1 = (((byt t 1 - 48).toNat : Nat) : Int) + 48 := by omega
    have e2 : byt t 2 = (((byt t 2 - 48).toNat : Nat) : Int) + 48 := by omega
    have e3 : byt t 2 - 48 = (((byt t 2 - 48).toNat : Nat) : Int) := by omega
    rw [h0] at i0 ⊢
    rw [if_pos rfl, e3]
    exact next_v x t (byt t 1 - 48).toNat (byt t 2 - 48).toNat w (fun i _ => hx i) (by omega) (by omega) i0 (by rw [← e1]; exact i1) (by rw [← e2]; exact i2)

end Go.Proofs.YtcfjhbcpjpgodaaDoor
