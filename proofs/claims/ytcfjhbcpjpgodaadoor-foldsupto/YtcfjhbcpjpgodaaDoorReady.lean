/- Proved here: a copy with room behind it, made ready for the looks that follow; what Fold leaves, in one form. -/
import Derived.Test.YtcfjhbcpjpgodaaDoorProgFold
import Derived.Test.YtcfjhbcpjpgodaaDoorRoomy
import Derived.Test.YtcfjhbcpjpgodaaDoorTextsReady
import Derived.Test.YtcfjhbcpjpgodaaDoorKept
import Derived.Test.YtcfjhbcpjpgodaaDoorWhich
namespace Go.Proofs.YtcfjhbcpjpgodaaDoor
open Go.RowKit

theorem roomy_ready (g : Nat → Int) (p : Option Addr) (n cap : Nat) (w : World) (hn : n ≤ 1099511627776) (hp : NilOr p n cap) (hl : Lies w w.heap.size p n (fun i => .int .i64 (g i))) :
    Calls Tryd.prog 14 #[.slice p n cap] w fun e w' => (∃ gp gc, e = .returned (.slice gp n gc) ∧ Lies w' w'.heap.size gp n (fun i => .int .i64 (g i)) ∧
      ∀ W' : World, Below w'.heap.size w' W' → Calls Tryd.prog 20 #[.slice gp n gc, .slice p n cap] W' fun e w3 => e = .returned (.bool true) ∧ w3 = W') ∧ Below w.heap.size w w' := by
  rcases hp with ⟨rfl, rfl, rfl⟩ | ⟨b, o, rfl⟩
  · refine (roomy_nil w).mono ?_
    rintro e w' ⟨rfl, rfl⟩
    exact ⟨⟨none, 0, rfl, fun i hi => by omega, fun W' _ => kept_nil W'⟩, Below.refl _ _⟩
  · refine (roomy_any g b o n cap w hn hl).mono ?_
    rintro e w' ⟨⟨gb, c, rfl, ho⟩, hb⟩
    obtain ⟨hc, hgl, hcell⟩ := own_room ho
    refine ⟨⟨some ⟨gb, 0, none⟩, c, rfl, fun i hi => ⟨gb, 0, rfl, hgl, ?_⟩, fun W' hW => ?_⟩, hb⟩
    · rw [Nat.zero_add, hcell i (by omega), if_pos hi]
    · exact kept_any g b o n cap gb c W' hn hc ((hl.below (hb.trans (hW.mono hb.size))).more (Nat.le_trans hb.size hW.size)) (fun i hi => by
        rw [hW.cell (p := ⟨gb, i, none⟩) (by exact hgl), hcell i hi])

/-- What Fold leaves, in one form: two rows, a text, an error that which tells. -/
theorem fold_uni {f : (Nat → Int) × Int} {es : List Addr} {a1 a12 : Addr} (h1 : es[0]? = some a1) (h12 : es[11]? = some a12) {w w' : World} {e : Ending} (h : FoldP f a1 a12 w e w') :
    ∃ (pp rp : Option Addr) (np nr pc rc : Nat) (s : ByteArray) (ev : Value) (xs ys : List Value), e = .returned (.tuple #[.agg #[.slice pp np pc, .string s, .slice rp nr rc], ev]) ∧
      w'.ownsRow w.heap.size 3 1 (.slice pp np pc) np xs ∧ w'.ownsRow w.heap.size 3 1 (.slice rp nr rc) nr ys ∧ (∀ g, Value.ownBlock (.slice pp np pc) = some g → Value.ownBlock (.slice rp nr rc) ≠ some g) ∧ np ≤ 26 ∧ nr ≤ 26 ∧
      (∀ W' : World, Sent es W' → Calls Tryd.prog 8 #[ev] W' fun e w2 => e = .returned (.int .i64 f.2) ∧ Below W'.heap.size W' w2) ∧
      (f.2 = 0 → np = 8 ∧ xs = powL f.1 8 ∧ nr = (memb f.1 26).length ∧ ys = roleL f.1 (memb f.1 26) ∧ s = nameB (memb f.1 26) ∧ ev = .nilIface) ∧ (f.2 ≠ 0 → np = 0 ∧ nr = 0 ∧ s = ByteArray.empty) ∧ Below w.heap.size w w' := by
  obtain ⟨hb, ⟨h0, p, r, rfl, hp, hr, hap⟩ | ⟨h0, rfl⟩ | ⟨h0, rfl⟩⟩ := h
  · obtain ⟨pp, pc, rfl⟩ := own_slice hp
    obtain ⟨rp, rc, rfl⟩ := own_slice hr
    exact ⟨pp, rp, 8, _, pc, rc, _, .nilIface, _, _, rfl, hp, hr, hap, by omega, memb_length _ _, fun W' hS => by rw [h0]; exact which_nil hS, fun _ => ⟨rfl, rfl, rfl, rfl, rfl, rfl⟩, fun h => absurd h0 h, hb⟩
  · exact ⟨none, none, 0, 0, 0, 0, ⟨#[]⟩, _, [], [], rfl, World.ownsRow_nil _ _ _ _, World.ownsRow_nil _ _ _ _, fun g e => (by cases e), by omega, by omega, fun W' hS => by rw [h0]; exact which_sent hS 0 a1 h1, fun h => (by rw [h0] at h; cases h), fun _ => ⟨rfl, rfl, rfl⟩, hb⟩
  · exact ⟨none, none, 0, 0, 0, 0, ⟨#[]⟩, _, [], [], rfl, World.ownsRow_nil _ _ _ _, World.ownsRow_nil _ _ _ _, fun g e => (by cases e), by omega, by omega, fun W' hS => by rw [h0]; exact which_sent hS 11 a12 h12, fun h => (by rw [h0] at h; cases h), fun _ => ⟨rfl, rfl, rfl⟩, hb⟩

/-- A row of numbers that is owned, by number. -/
theorem own_nums {w : World} {base n : Nat} {p : Option Addr} {c : Nat} {l : List Int} (h : w.ownsRow base 3 1 (.slice p n c) n (l.map (Value.int .i64))) : n = l.length ∧ Lies w w.heap.size p n (fun i => .int .i64 (l.getD i 0)) := by
  have hl : n = l.length := by have := h.1; simp at this; omega
  refine ⟨hl, fun i hi => ?_⟩
  rcases h.2 with ⟨_, h0⟩ | ⟨g, cap, cur, e0, hb, hg, hnc, hcm, hcs, ht⟩
  · omega
  · cases e0
    refine ⟨g, 0, rfl, row_lt hg, ?_⟩
    rw [cell_of_row w g (0 + i) _ _ _ hg, Nat.zero_add]
    have e1 : (cur.toList.take (n * 1))[i]? = (l.map (Value.int .i64))[i]? := by rw [ht]
    rw [List.getElem?_take, if_pos (by omega)] at e1
    rw [← Array.getElem?_toList, e1, List.getElem?_map]
    show Option.map (Value.int .i64) l[i]? = some (.int .i64 (l.getD i 0))
    rw [List.getD_eq_getElem?_getD, List.getElem?_eq_getElem (by omega)]
    rfl
theorem powL_nums (x : Nat → Int) (k : Nat) : powL x k = ((List.range k).map x).map (Value.int .i64) := by simp [powL, List.map_map]
theorem roleL_nums (x : Nat → Int) (l : List Nat) : roleL x l = (l.map fun j => x (8 + j)).map (Value.int .i64) := by simp [roleL, List.map_map]

end Go.Proofs.YtcfjhbcpjpgodaaDoor
