/- Proved here: what the law's book holds from one list that it keeps to the next, and that all of it reads as it was written. -/
import Derived.Test.YtcfjhbcpjpgodaaDoorKeep
import Derived.Test.YtcfjhbcpjpgodaaDoorLooks
namespace Go.Proofs.YtcfjhbcpjpgodaaDoor
open Go.RowKit

/-- One entry of the book: four lists that read as the mark of the number i, in no block x and in none of A. -/
def EntryI (A : Nat → Prop) (x : Option Nat) (w : World) (i : Nat) (ev : Value) : Prop :=
  ∃ (ge : Nat) (pp : Nat → Option Addr) (nn cc : Nat → Nat), ev = .slice (some ⟨ge, 0, none⟩) 4 4 ∧
    w.heap[ge]? = some (.cells #[.slice (pp 0) (nn 0) (cc 0), .slice (pp 1) (nn 1) (cc 1), .slice (pp 2) (nn 2) (cc 2), .slice (pp 3) (nn 3) (cc 3)] 38 (0, 0)) ∧
    ∀ k, k < 4 → nn k ≤ 1000 ∧ ∀ j, j < nn k → ∃ b o, pp k = some ⟨b, o, none⟩ ∧ b < w.heap.size ∧ some b ≠ x ∧ ¬ A b ∧ w.cell? ⟨b, o + j, none⟩ = some (.int .i64 (-7000 - (i : Int)))

/-- The book in block bk, with K entries. -/
def BookI (A : Nat → Prop) (bk base0 K : Nat) (w : World) : Prop :=
  ∃ lv evs, w.heap[bk]? = some (.cells #[lv, .slice none 0 0] 44 (0, 0)) ∧ w.ownsRow base0 98 1 lv K evs ∧ ∀ i ev, evs[i]? = some ev → EntryI A lv.ownBlock w i ev

theorem heap_lt {w : World} {g : Nat} {o : Obj} (h : w.heap[g]? = some o) : g < w.heap.size := by
  rcases Nat.lt_or_ge g w.heap.size with h' | h'
  · exact h'
  · simp [Array.getElem?_eq_none h'] at h

theorem EntryI.avoid {A A' : Nat → Prop} {x : Option Nat} {w : World} {i : Nat} {ev : Value} (h : EntryI A x w i ev) (hA : ∀ b, b < w.heap.size → A' b → A b) : EntryI A' x w i ev := by
  obtain ⟨ge, pp, nn, cc, e, hg, hm⟩ := h
  refine ⟨ge, pp, nn, cc, e, hg, fun k hk => ⟨(hm k hk).1, fun j hj => ?_⟩⟩
  obtain ⟨b, o, e1, h1, h2, h3, h4⟩ := (hm k hk).2 j hj
  exact ⟨b, o, e1, h1, h2, fun h => h3 (hA b h1 h), h4⟩
theorem BookI.avoid {A A' : Nat → Prop} {bk base0 K : Nat} {w : World} (h : BookI A bk base0 K w) (hA : ∀ b, b < w.heap.size → A' b → A b) : BookI A' bk base0 K w := by
  obtain ⟨lv, evs, h1, h2, h3⟩ := h
  exact ⟨lv, evs, h1, h2, fun i ev e => (h3 i ev e).avoid hA⟩

theorem BookI.below {A : Nat → Prop} {bk base0 K : Nat} {w w' : World} (h : BookI A bk base0 K w) (hb : Below w.heap.size w w') : BookI A bk base0 K w' := by
  obtain ⟨lv, evs, h1, h2, h3⟩ := h
  refine ⟨lv, evs, (hb.block bk (heap_lt h1)).trans h1, own_blocks h2 (fun g _ hg => hb.block g hg), fun i ev e => ?_⟩
  obtain ⟨ge, pp, nn, cc, e1, hg, hm⟩ := h3 i ev e
  refine ⟨ge, pp, nn, cc, e1, (hb.block ge (heap_lt hg)).trans hg, fun k hk => ⟨(hm k hk).1, fun j hj => ?_⟩⟩
  obtain ⟨b, o, e2, h4, h5, h6, h7⟩ := (hm k hk).2 j hj
  exact ⟨b, o, e2, Nat.lt_of_lt_of_le h4 hb.size, h5, h6, (hb.cell (p := ⟨b, o + j, none⟩) (by exact h4)).trans h7⟩

theorem BookI.new {A : Nat → Prop} {bk base0 : Nat} {w : World} (h : w.heap[bk]? = some (.cells #[.slice none 0 0, .slice none 0 0] 44 (0, 0))) : BookI A bk base0 0 w :=
  ⟨_, [], h, World.ownsRow_nil _ _ _ _, fun i ev e => by simp at e⟩

/-- The book keeps one list more. -/
theorem keep_book (A A' : Nat → Prop) (bk base0 base K n : Nat) (v : Value) (xs : List Value) (w : World) (hK : K ≤ 100) (hn : n ≤ 100) (hB : BookI A bk base0 K w) (hv : w.ownsRow base 3 1 v n xs)
    (h1 : bk < base0) (h2 : bk < base) (h4 : base ≤ w.heap.size) (h5 : base0 ≤ w.heap.size) (hA : ∀ g, v.ownBlock = some g → A g) (hA' : ∀ b, A' b → A b ∧ some b ≠ v.ownBlock ∧ b < w.heap.size) :
    Calls Tryd.prog 22 #[.pointer (some ⟨bk, 0, none⟩), v] w fun e w' => e = .returned (.tuple #[]) ∧ BookI A' bk base0 (K + 1) w' ∧ Below bk w w' ∧ ∀ k, k < w.heap.size → k ≠ bk → some k ≠ v.ownBlock → (∀ t c, w.heap[k]? = some (.cells c t (0, 0)) → t ≠ 98) → w'.heap[k]? = w.heap[k]? := by
  obtain ⟨lv, evs, hb, ho, he⟩ := hB
  have hlen : evs.length = K := by have := ho.1; omega
  have lvt : ∀ g, lv.ownBlock = some g → ∃ c, w.heap[g]? = some (.cells c 98 (0, 0)) := fun g hg => by
    rcases ho.2 with ⟨rfl, _⟩ | ⟨g1, _, c1, rfl, _, hh1, _⟩
    · cases hg
    · cases hg
      exact ⟨c1, hh1⟩
  have lvb : ∀ g, lv.ownBlock = some g → base0 ≤ g := fun g hg => (ho.lt g hg).1
  have vt : ∀ g, v.ownBlock = some g → ∃ c, w.heap[g]? = some (.cells c 3 (0, 0)) := fun g hg => by
    rcases hv.2 with ⟨rfl, _⟩ | ⟨g1, _, c1, rfl, _, hh1, _⟩
    · cases hg
    · cases hg
      exact ⟨c1, hh1⟩
  refine (keep_any bk K base base0 n lv (.slice none 0 0) v evs xs w hK hn hb ho hv h1 h2 h4 h5).mono ?_
  rintro e w' ⟨rfl, lv', ge, v1, v2, v3, hb', ho', hlv', hge, hgC, m0, m1, m2, m3, hos, htp, hout, hsz, hfr⟩
  have hfr2 : ∀ k, k < w.heap.size → k ≠ bk → some k ≠ v.ownBlock → (∀ t c, w.heap[k]? = some (.cells c t (0, 0)) → t ≠ 98) → w'.heap[k]? = w.heap[k]? := fun k k1 k2 k3 k4 =>
    hfr k k1 k2 (fun e => by obtain ⟨c, hc⟩ := lvt k e.symm; exact k4 _ c hc rfl) k3
  refine ⟨rfl, ⟨lv', _, hb', ho', fun i ev hev => ?_⟩, ⟨hos, htp, hout, hsz, fun k hk => hfr k (by omega) (by omega) (fun e => by have := lvb k e.symm; omega) (fun e => by have := (hv.lt k e.symm).1; omega)⟩, hfr2⟩
  by_cases hi : i < K
  · have hev' : evs[i]? = some ev := by rw [List.getElem?_append_left (by omega)] at hev; exact hev
    obtain ⟨g1, pp, nn, cc, e1, hg1, hm⟩ := he i ev hev'
    have hg1lt := heap_lt hg1
    have hg1' : w'.heap[g1]? = w.heap[g1]? := hfr2 g1 hg1lt (fun e => by rw [e, hb] at hg1; simp at hg1) (fun e => by obtain ⟨c, hc⟩ := vt g1 e.symm; rw [hc] at hg1; simp at hg1) (fun t c hc => by rw [hc] at hg1; intro e; subst e; simp at hg1)
    refine ⟨g1, pp, nn, cc, e1, hg1'.trans hg1, fun k hk => ⟨(hm k hk).1, fun j hj => ?_⟩⟩
    obtain ⟨b, o, e2, h6, h7, h8, h9⟩ := (hm k hk).2 j hj
    have hbk : b ≠ bk := fun e => by
      subst e
      rw [cell_of_row w b _ _ _ _ hb] at h9
      match o + j, h9 with
      | 0, h9 =>
        rcases ho.2 with ⟨rfl, _⟩ | ⟨_, _, _, rfl, _⟩
        · simp at h9
        · simp at h9
      | 1, h9 => simp at h9
      | m + 2, h9 => simp at h9
    refine ⟨b, o, e2, Nat.lt_of_lt_of_le h6 hsz, fun e => ?_, fun h => h8 (hA' b h).1, ?_⟩
    · rcases hlv' b e.symm with e3 | e3
      · exact h7 e3.symm
      · omega
    · rw [← h9]
      exact World.cell?_of_block (w := w) (a := ⟨b, o + j, none⟩) (hfr b h6 hbk h7 (fun e => h8 (hA b e.symm)))
  · have hi2 : i = K := by
      have := (List.getElem?_eq_some_iff.1 hev).1
      simp at this
      omega
    subst hi2
    have hev' : ev = .slice (some ⟨ge, 0, none⟩) 4 4 := by
      rw [List.getElem?_append_right (by omega), hlen, Nat.sub_self] at hev
      simpa using hev.symm
    obtain ⟨p0, c0, rfl, l0⟩ := m0
    obtain ⟨p1, c1, rfl, l1⟩ := m1
    obtain ⟨p2, c2, rfl, l2⟩ := m2
    obtain ⟨p3, c3, rfl, l3⟩ := m3
    have hlast : ∀ b, (some b = Value.ownBlock (.slice p0 n c0) ∨ w.heap.size ≤ b) → ¬ A' b := fun b hb2 ha => by
      obtain ⟨_, a2, a3⟩ := hA' b ha
      rcases hb2 with e | e
      · exact a2 e
      · omega
    refine ⟨ge, fun | 0 => p0 | 1 => p1 | 2 => p2 | _ => p3, fun | 0 => n | 1 => n + 1 | 2 => n + 2 | _ => n + 6, fun | 0 => c0 | 1 => c1 | 2 => c2 | _ => c3, hev', hgC, fun k hk => ?_⟩
    match k, hk with
    | 0, _ => exact ⟨by show n ≤ 1000; omega, fun j hj => by obtain ⟨b, o, e, a1, a2, a3⟩ := l0 j hj; exact ⟨b, o, e, a1, a2.1, hlast b a2.2, a3⟩⟩
    | 1, _ => exact ⟨by show n + 1 ≤ 1000; omega, fun j hj => by obtain ⟨b, o, e, a1, a2, a3⟩ := l1 j hj; exact ⟨b, o, e, a1, a2.1, hlast b a2.2, a3⟩⟩
    | 2, _ => exact ⟨by show n + 2 ≤ 1000; omega, fun j hj => by obtain ⟨b, o, e, a1, a2, a3⟩ := l2 j hj; exact ⟨b, o, e, a1, a2.1, hlast b a2.2, a3⟩⟩
    | 3, _ => exact ⟨by show n + 6 ≤ 1000; omega, fun j hj => by obtain ⟨b, o, e, a1, a2, a3⟩ := l3 j hj; exact ⟨b, o, e, a1, a2.1, hlast b a2.2, a3⟩⟩

/-- All that the book holds reads as it was written. -/
theorem looks_book (A : Nat → Prop) (bk base0 K : Nat) (w : World) (hK : K ≤ 100) (hB : BookI A bk base0 K w) :
    Calls Tryd.prog 23 #[.pointer (some ⟨bk, 0, none⟩)] w fun e w' => e = .returned (.bool true) ∧ Below w.heap.size w w' := by
  obtain ⟨lv, evs, hb, ho, he⟩ := hB
  have hlen : evs.length = K := by have := ho.1; omega
  have hch : ∀ i, ∃ y : Nat × (Nat → Option Addr) × (Nat → Nat) × (Nat → Nat), i < K → evs[i]? = some (.slice (some ⟨y.1, 0, none⟩) 4 4) ∧
      w.heap[y.1]? = some (.cells #[.slice (y.2.1 0) (y.2.2.1 0) (y.2.2.2 0), .slice (y.2.1 1) (y.2.2.1 1) (y.2.2.2 1), .slice (y.2.1 2) (y.2.2.1 2) (y.2.2.2 2), .slice (y.2.1 3) (y.2.2.1 3) (y.2.2.2 3)] 38 (0, 0)) ∧
      ∀ k, k < 4 → y.2.2.1 k ≤ 1000 ∧ ∀ j, j < y.2.2.1 k → ∃ b o, y.2.1 k = some ⟨b, o, none⟩ ∧ b < w.heap.size ∧ w.cell? ⟨b, o + j, none⟩ = some (.int .i64 (-7000 - (i : Int))) := fun i => by
    by_cases hi : i < K
    · have hev : evs[i]? = some (evs[i]'(by omega)) := List.getElem?_eq_getElem (by omega)
      obtain ⟨ge, pp, nn, cc, e, hg, hm⟩ := he i _ hev
      refine ⟨(ge, pp, nn, cc), fun _ => ⟨by rw [hev, e], hg, fun k hk => ⟨(hm k hk).1, fun j hj => ?_⟩⟩⟩
      obtain ⟨b, o, a1, a2, _, _, a5⟩ := (hm k hk).2 j hj
      exact ⟨b, o, a1, a2, a5⟩
    · exact ⟨(0, fun _ => none, fun _ => 0, fun _ => 0), fun h => absurd h hi⟩
  obtain ⟨f, hf⟩ := Classical.axiomOfChoice hch
  obtain ⟨lp, lc, rfl⟩ := own_slice ho
  refine looks_any bk K lp lc (fun i => (f i).1) (fun i => (f i).2.1) (fun i => (f i).2.2.1) (fun i => (f i).2.2.2) w hK (heap_lt hb) (cell_of_row w bk 0 _ _ _ hb) (cell_of_row w bk 1 _ _ _ hb) ?_ ?_ ?_
  · intro i hi
    rcases ho.2 with ⟨e0, h0⟩ | ⟨g, cap, cur, e0, hbb, hg, hnc, hcm, hcs, ht⟩
    · omega
    · cases e0
      refine ⟨g, 0, rfl, heap_lt hg, ?_⟩
      rw [cell_of_row w g (0 + i) _ _ _ hg, Nat.zero_add]
      have e1 : (cur.toList.take (K * 1))[i]? = evs[i]? := by rw [ht]
      rw [List.getElem?_take, if_pos (by omega)] at e1
      rw [← Array.getElem?_toList, e1]
      exact (hf i hi).1
  · intro i k hi hk
    have h := (hf i hi).2.1
    refine ⟨heap_lt h, ?_⟩
    match k, hk with
    | 0, _ => exact cell_of_row w _ 0 _ _ _ h
    | 1, _ => exact cell_of_row w _ 1 _ _ _ h
    | 2, _ => exact cell_of_row w _ 2 _ _ _ h
    | 3, _ => exact cell_of_row w _ 3 _ _ _ h
  · intro i k hi hk
    refine ⟨((hf i hi).2.2 k hk).1, fun j hj => ?_⟩
    obtain ⟨b, o, a1, a2, a3⟩ := ((hf i hi).2.2 k hk).2 j hj
    exact ⟨b, o, a1, a2, a3⟩

end Go.Proofs.YtcfjhbcpjpgodaaDoor
