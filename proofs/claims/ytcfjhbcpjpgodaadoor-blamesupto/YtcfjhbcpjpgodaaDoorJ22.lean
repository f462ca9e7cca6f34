/- Proved here: a copy of a list of texts with room behind it, made ready for the look that follows. · Proved here: a copy of a list of texts with room behind it, made ready for the look that follows; what kind of slice it is. -/
import Derived.Test.YtcfjhbcpjpgodaaDoorTexts
import Derived.Test.YtcfjhbcpjpgodaaDoorKeptTexts
namespace Go.Proofs.YtcfjhbcpjpgodaaDoor
open Go.RowKit

theorem own_room {w : World} {base e n gb c : Nat} {f : Nat → Value} {m : Value} (h : w.ownsRow base e 1 (.slice (some ⟨gb, 0, none⟩) (n + 8) c) (n + 8) (roomL f n m)) :
    n + 8 ≤ c ∧ gb < w.heap.size ∧ ∀ i, i < n + 8 → w.cell? ⟨gb, i, none⟩ = some (if i < n then f i else m) := by
  rcases h.2 with ⟨e0, _⟩ | ⟨g, cap, cur, e0, hb, hg, hnc, hcm, hcs, ht⟩
  · cases e0
  · cases e0
    refine ⟨hnc, row_lt0 hg, fun i hi => ?_⟩
    rw [cell_of_row w gb i _ _ _ hg]
    have e1 : (cur.toList.take ((n + 8) * 1))[i]? = (roomL f n m)[i]? := by rw [ht]
    rw [List.getElem?_take, if_pos (by omega), roomL_get _ _ _ _ hi] at e1
    rw [← Array.getElem?_toList, e1]

theorem texts_ready (g : Nat → ByteArray) (p : Option Addr) (n cap : Nat) (w : World) (hn : n ≤ 1099511627776) (hp : NilOr p n cap) (hl : Lies w w.heap.size p n (fun i => .string (g i))) :
    Calls Tryd.prog 15 #[.slice p n cap] w fun e w' => (∃ gp gc, e = .returned (.slice gp n gc) ∧ Lies w' w'.heap.size gp n (fun i => .string (g i)) ∧
      ∀ W' : World, Below w'.heap.size w' W' → Calls Tryd.prog 21 #[.slice gp n gc, .slice p n cap] W' fun e w3 => e = .returned (.bool true) ∧ w3 = W') ∧ Below w.heap.size w w' := by
  rcases hp with ⟨rfl, rfl, rfl⟩ | ⟨b, o, rfl⟩
  · refine (texts_nil w).mono ?_
    rintro e w' ⟨rfl, rfl⟩
    exact ⟨⟨none, 0, rfl, fun i hi => by omega, fun W' _ => keptTexts_nil W'⟩, Below.refl _ _⟩
  · refine (texts_any g b o n cap w hn hl).mono ?_
    rintro e w' ⟨⟨gb, c, rfl, ho⟩, hb⟩
    obtain ⟨hc, hgl, hcell⟩ := own_room ho
    refine ⟨⟨some ⟨gb, 0, none⟩, c, rfl, fun i hi => ⟨gb, 0, rfl, hgl, ?_⟩, fun W' hW => ?_⟩, hb⟩
    · rw [Nat.zero_add, hcell i (by omega), if_pos hi]
    · exact keptTexts_any g b o n cap gb c W' hn hc ((hl.below (hb.trans (hW.mono hb.size))).more (Nat.le_trans hb.size hW.size)) (fun i hi => by
        rw [hW.cell (p := ⟨gb, i, none⟩) (by exact hgl), hcell i hi])

end Go.Proofs.YtcfjhbcpjpgodaaDoor
namespace Go.Proofs.YtcfjhbcpjpgodaaDoor
open Go.RowKit

theorem texts_readyN (g : Nat → ByteArray) (p : Option Addr) (n cap : Nat) (w : World) (hn : n ≤ 1099511627776) (hp : NilOr p n cap) (hl : Lies w w.heap.size p n (fun i => .string (g i))) :
    Calls Tryd.prog 15 #[.slice p n cap] w fun e w' => (∃ gp gc, e = .returned (.slice gp n gc) ∧ NilOr gp n gc ∧ Lies w' w'.heap.size gp n (fun i => .string (g i)) ∧
      ∀ W' : World, Below w'.heap.size w' W' → Calls Tryd.prog 21 #[.slice gp n gc, .slice p n cap] W' fun e w3 => e = .returned (.bool true) ∧ w3 = W') ∧ Below w.heap.size w w' := by
  rcases hp with ⟨rfl, rfl, rfl⟩ | ⟨b, o, rfl⟩
  · refine (texts_nil w).mono ?_
    rintro e w' ⟨rfl, rfl⟩
    exact ⟨⟨none, 0, rfl, Or.inl ⟨rfl, rfl, rfl⟩, fun i hi => by omega, fun W' _ => keptTexts_nil W'⟩, Below.refl _ _⟩
  · refine (texts_any g b o n cap w hn hl).mono ?_
    rintro e w' ⟨⟨gb, c, rfl, ho⟩, hb⟩
    obtain ⟨hc, hgl, hcell⟩ := own_room ho
    refine ⟨⟨some ⟨gb, 0, none⟩, c, rfl, Or.inr ⟨gb, 0, rfl⟩, fun i hi => ⟨gb, 0, rfl, hgl, ?_⟩, fun W' hW => ?_⟩, hb⟩
    · rw [Nat.zero_add, hcell i (by omega), if_pos hi]
    · exact keptTexts_any g b o n cap gb c W' hn hc ((hl.below (hb.trans (hW.mono hb.size))).more (Nat.le_trans hb.size hW.size)) (fun i hi => by
        rw [hW.cell (p := ⟨gb, i, none⟩) (by exact hgl), hcell i hi])

end Go.Proofs.YtcfjhbcpjpgodaaDoor
