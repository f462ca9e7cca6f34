/- Proved here: the mark of a number; plain facts on lists that read as marks. -/
import Derived.Test.YtcfjhbcpjpgodaaDoorAnyInv
import Derived.Test.YtcfjhbcpjpgodaaDoorMarks
import Derived.Test.YtcfjhbcpjpgodaaDoorPlain
namespace Go.Proofs.YtcfjhbcpjpgodaaDoor
open Go.RowKit

theorem mark_any (k : Nat) (w : World) (hk : k ≤ 1000) :
    Calls Tryd.prog 43 #[.int .i64 (k : Int)] w fun e w' => e = .returned (.int .i64 (-7000 - (k : Int))) ∧ w' = w := by
  go_enter Tryd.func43, Tryd.ntmps43
  go_wp2
  go_ret
  exact ⟨rfl, rfl⟩

/-- A list all of whose elements are M. -/
def Marked (w : World) (v : Value) (n : Nat) (M : Value) : Prop := ∃ p c, v = .slice p n c ∧ Lies w w.heap.size p n (fun _ => M)

theorem Marked.later {w w' : World} {v : Value} {n : Nat} {M : Value} (h : Marked w v n M) (hs : w.heap.size ≤ w'.heap.size) (hc : ∀ b j, w.cell? ⟨b, j, none⟩ = some M → w'.cell? ⟨b, j, none⟩ = some M) : Marked w' v n M := by
  obtain ⟨p, c, rfl, hl⟩ := h
  refine ⟨p, c, rfl, fun i hi => ?_⟩
  obtain ⟨b, o, e, hb, hcell⟩ := hl i hi
  exact ⟨b, o, e, by omega, hc _ _ hcell⟩

theorem Marked.own {w : World} {v : Value} {n base e : Nat} {M : Value} (h : w.ownsRow base e 1 v n (List.replicate n M)) : Marked w v n M := by
  rcases h.2 with ⟨rfl, rfl⟩ | ⟨g, cap, cur, rfl, hb, hg, hnc, hcm, hcs, ht⟩
  · exact ⟨none, 0, rfl, fun i hi => by omega⟩
  · refine ⟨_, cap, rfl, fun i hi => ⟨g, 0, rfl, ?_, ?_⟩⟩
    · rcases Nat.lt_or_ge g w.heap.size with h' | h'
      · exact h'
      · simp [Array.getElem?_eq_none h'] at hg
    · rw [cell_of_row w g (0 + i) _ e _ hg, Nat.zero_add]
      have e1 : (cur.toList.take (n * 1))[i]? = (List.replicate n M)[i]? := by rw [ht]
      rw [List.getElem?_take, if_pos (by omega), List.getElem?_replicate, if_pos hi] at e1
      rw [← Array.getElem?_toList, e1]

theorem own_set {w : World} {base e n g cap k : Nat} {ys : List Value} {M : Value} (h : w.ownsRow base e 1 (.slice (some ⟨g, 0, none⟩) n cap) n ys) (hk : k < n) :
    w.cell? ⟨g, k, none⟩ = ys[k]? ∧ w.frozen? ⟨g, k, none⟩ = false ∧ (w.setCell ⟨g, k, none⟩ M).ownsRow base e 1 (.slice (some ⟨g, 0, none⟩) n cap) n (ys.set k M) := by
  rcases h.2 with ⟨e1, _⟩ | ⟨g', cap', cur, e1, hb, hg, hnc, hcm, hcs, ht⟩
  · cases e1
  · cases e1
    refine ⟨?_, by simp [World.frozen?, hg], by simpa using h.1, Or.inr ⟨g, cap, cur.setIfInBounds k M, rfl, hb, ?_, hnc, hcm, by simpa using hcs, ?_⟩⟩
    · rw [cell_of_row w g k _ e _ hg, ← ht, List.getElem?_take, if_pos (by omega), Array.getElem?_toList]
    · simp [World.setCell, Array.getElem?_modify, hg]
    · rw [← ht, Array.toList_setIfInBounds, List.take_set]

theorem fill_step (xs : List Value) (M : Value) (k n : Nat) (hn : xs.length = n) (hk : k < n) : (List.replicate k M ++ xs.drop k).set k M = List.replicate (k + 1) M ++ xs.drop (k + 1) := by
  rw [List.set_append_right _ _ (by simp)]
  rw [List.length_replicate, Nat.sub_self, List.drop_eq_getElem_cons (by omega), List.set_cons_zero, List.replicate_succ', List.append_assoc]
  rfl

end Go.Proofs.YtcfjhbcpjpgodaaDoor
