/- Proved here: a region that draws its order, by an invariant over what has come up so far: one proof an operation, whatever the number of orders. Nothing here speaks of a program. · Proved here: the mark of a number; plain facts on lists that read as marks. · Proved here: what holds inside the statement in which the book keeps a list, whatever has come up of it so far, and that more memory does not harm it. -/
import Derived.Deep.RegionHeld
import Derived.Test.YtcfjhbcpjpgodaaDoorMarks
import Derived.Test.YtcfjhbcpjpgodaaDoorPlain
namespace Go.Proofs.YtcfjhbcpjpgodaaDoor

/-- How many of the first n have not come up. -/
def leftN (l : Nat → Bool) : Nat → Nat
  | 0 => 0
  | n + 1 => leftN l n + if l n then 0 else 1

/-- One more has come up. -/
def came (l : Nat → Bool) (i : Nat) : Nat → Bool := fun j => if j = i then true else l j

theorem leftN_same (l l' : Nat → Bool) (n : Nat) (h : ∀ j, j < n → l j = l' j) : leftN l n = leftN l' n := by
  induction n with
  | zero => rfl
  | succ n ih => simp only [leftN]; rw [ih (fun j hj => h j (by omega)), h n (by omega)]

theorem leftN_came (l : Nat → Bool) (i n : Nat) (hi : i < n) (h : l i = false) : leftN (came l i) n + 1 = leftN l n := by
  induction n with
  | zero => omega
  | succ n ih =>
    simp only [leftN]
    by_cases e : i = n
    · subst e
      rw [leftN_same (came l i) l i (fun j hj => by simp [came]; omega)]
      simp [came, h]
    · have := ih (by omega)
      have e2 : came l i n = l n := by simp only [came]; rw [if_neg (fun h => e h.symm)]
      rw [e2]
      omega

theorem leftN_zero (l : Nat → Bool) (n : Nat) (h : leftN l n = 0) : ∀ i, i < n → l i = true := by
  induction n with
  | zero => intro i hi; omega
  | succ n ih =>
    simp only [leftN] at h
    intro i hi
    by_cases e : i = n
    · subst e
      cases hl : l i with
      | true => rfl
      | false => simp [hl] at h
    · exact ih (by omega) i (by omega)

section
variable {P : Program} {ops : Array Oper} {Q : Exit → Act → World → Prop} {md : Region.Mode}

/-- What has come up, by number. -/
def upTo (listed : Array Bool) : Nat → Bool := fun i => listed.getD i true

theorem upTo_set (listed : Array Bool) (i : Nat) : upTo (listed.setIfInBounds i true) = came (upTo listed) i := by
  funext j
  unfold upTo came
  by_cases h : j = i
  · subst h
    rw [if_pos rfl]
    by_cases hlt : j < listed.size
    · simp [hlt]
    · simp only [Array.getD_eq_getD_getElem?]
      rw [Array.getElem?_eq_none (by simp; omega)]
      rfl
  · rw [if_neg h, getD_set_ne true (fun e => h e.symm)]

theorem listed_of_upTo (listed : Array Bool) (j : Nat) (hj : j < listed.size) : listed.getD j false = upTo listed j := by
  unfold upTo
  simp [hj]

/-- Every edge goes back. -/
def goesBack (ops : Array Oper) : Bool := (List.range ops.size).all fun i => ((ops[i]?).map fun o => o.after.all fun e => decide (e.on < i)).getD true

theorem goesBack_lt (h : goesBack ops = true) {i : Nat} {o : Oper} (ho : ops[i]? = some o) : ∀ e ∈ o.after, e.on < i := by
  have hi : i < ops.size := (Array.getElem?_eq_some_iff.1 ho).1
  have := List.all_eq_true.1 h i (List.mem_range.2 hi)
  rw [ho] at this
  simp only [Option.map_some, Option.getD_some, Array.all_eq_true_iff_forall_mem] at this
  exact fun e he => of_decide_eq_true (this e he)

theorem ready_nil_all (hb : goesBack ops = true) (listed : Array Bool) (hs : listed.size = ops.size) (h : Region.ready md ops listed = []) : ∀ i, i < ops.size → upTo listed i = true := by
  intro i
  induction i using Nat.strongRecOn with
  | ind i ih =>
    intro hi
    cases hl : upTo listed i with
    | true => rfl
    | false =>
      have : i ∈ Region.ready md ops listed := mem_ready.2 ⟨hl, ops[i], Array.getElem?_eq_getElem hi, fun e he _ => by
        have hlt := goesBack_lt hb (Array.getElem?_eq_getElem hi) e he
        rw [listed_of_upTo listed e.on (by omega)]
        exact ih e.on hlt (by omega)⟩
      rw [h] at this
      cases this

/-- **The invariant's law.** -/
theorem wpAnyH_inv (hb : goesBack ops = true) (I : (Nat → Bool) → Act → World → Prop)
    (hstep : ∀ (l : Nat → Bool) (a : Act) (w : World) (i : Nat) (o : Oper), I l a w → l i = false → ops[i]? = some o → (∀ e ∈ o.after, Region.binds md e = true → l e.on = true) →
      ∀ K' : Act → World → Prop, Shut (∀ a' w', I (came l i) a' w' → K' a' w') → if Region.wanted o (yielded ops a.tmps) = true then Oper.wp P o a w K' Q else K' (a.put o.dst undef) w)
    (hend : ∀ (l : Nat → Bool) (a : Act) (w : World), I l a w → (∀ i, i < ops.size → l i = true) → Q .normal a w) :
    ∀ (fuel : Nat) (listed : Array Bool) (a : Act) (w : World), listed.size = ops.size → leftN (upTo listed) ops.size ≤ fuel → I (upTo listed) a w → wpAnyH P md ops Q (fun _ => True) fuel listed a w := by
  intro fuel
  induction fuel with
  | zero =>
    intro listed a w hs hf hI
    have hall := leftN_zero _ _ (Nat.le_zero.1 hf)
    refine ⟨?_, hend _ a w hI hall⟩
    cases hr : Region.ready md ops listed with
    | nil => rfl
    | cons j rs =>
      have hj : j ∈ Region.ready md ops listed := by rw [hr]; simp
      obtain ⟨h0, o, ho, _⟩ := mem_ready.1 hj
      have := hall j (Array.getElem?_eq_some_iff.1 ho).1
      unfold upTo at this
      rw [h0] at this
      cases this
  | succ fuel ih =>
    intro listed a w hs hf hI
    refine ⟨fun hr => hend _ a w hI (ready_nil_all hb listed hs hr), fun i hi => ?_⟩
    obtain ⟨h0, o, ho, hall⟩ := mem_ready.1 hi
    have hlt : i < ops.size := (Array.getElem?_eq_some_iff.1 ho).1
    refine wpOp_step ho (fun K' hK => hstep (upTo listed) a w i o hI h0 ho (fun e he hbd => ?_) K' (fun a' w' hI' => hK a' w' ⟨trivial, ?_⟩))
    · have h1 := goesBack_lt hb ho e he
      rw [← listed_of_upTo listed e.on (by omega)]
      exact hall e he hbd
    · refine ih (listed.setIfInBounds i true) a' w' (by simpa using hs) ?_ (by rw [upTo_set]; exact hI')
      rw [upTo_set]
      have := leftN_came (upTo listed) i ops.size hlt h0
      omega
end

end Go.Proofs.YtcfjhbcpjpgodaaDoor
namespace Go.Proofs.YtcfjhbcpjpgodaaDoor
open Go.RowKit

theorem mark_any (k : Nat) (w : World) (hk : k ≤ 1000000000) :
    Calls Tryd.prog 43 #[.int .i64 (k : Int)] w fun e w' => e = .returned (.int .i64 (-7000 - (k : Int))) ∧ w' = w := by
  go_enter Tryd.func43, Tryd.ntmps43
  go_wp2
  go_ret
  exact ⟨rfl, rfl⟩

/-- A list all of whose elements are M. -/
def Marked (w : World) (v : Value) (n : Nat) (M : Value) : Prop := ∃ p c, v = .slice p n c ∧ Lies w w.heap.size p n (fun _ => M)

theorem Marked.later {w w' : World} {v : Value} {n : Nat} {M : Value} (h : Marked w v n M) (hs : w.heap.size ≤ w'.heap.size) (hc : ∀ b j, w.cell? ⟨b, j, none⟩ = some M → w'.cell? ⟨b, j, none⟩ = some M) : Marked w' v n M := by
  obtain ⟨p, c, rfl, hl⟩ := h
  refine ⟨p, c, rfl, fun i hi => ?_⟩
  obtain ⟨b, o, e, hb, hcell⟩ := hl i hi
  exact ⟨b, o, e, by omega, hc _ _ hcell⟩

theorem Marked.own {w : World} {v : Value} {n base e : Nat} {M : Value} (h : w.ownsRow base e 1 v n (List.replicate n M)) : Marked w v n M := by
  rcases h.2 with ⟨rfl, rfl⟩ | ⟨g, cap, cur, rfl, hb, hg, hnc, hcm, hcs, ht⟩
  · exact ⟨none, 0, rfl, fun i hi => by omega⟩
  · refine ⟨_, cap, rfl, fun i hi => ⟨g, 0, rfl, ?_, ?_⟩⟩
    · rcases Nat.lt_or_ge g w.heap.size with h' | h'
      · exact h'
      · simp [Array.getElem?_eq_none h'] at hg
    · rw [cell_of_row w g (0 + i) _ e _ hg, Nat.zero_add]
      have e1 : (cur.toList.take (n * 1))[i]? = (List.replicate n M)[i]? := by rw [ht]
      rw [List.getElem?_take, if_pos (by omega), List.getElem?_replicate, if_pos hi] at e1
      rw [← Array.getElem?_toList, e1]

theorem own_set {w : World} {base e n g cap k : Nat} {ys : List Value} {M : Value} (h : w.ownsRow base e 1 (.slice (some ⟨g, 0, none⟩) n cap) n ys) (hk : k < n) :
    w.cell? ⟨g, k, none⟩ = ys[k]? ∧ w.frozen? ⟨g, k, none⟩ = false ∧ (w.setCell ⟨g, k, none⟩ M).ownsRow base e 1 (.slice (some ⟨g, 0, none⟩) n cap) n (ys.set k M) := by
  rcases h.2 with ⟨e1, _⟩ | ⟨g', cap', cur, e1, hb, hg, hnc, hcm, hcs, ht⟩
  · cases e1
  · cases e1
    refine ⟨?_, by simp [World.frozen?, hg], by simpa using h.1, Or.inr ⟨g, cap, cur.setIfInBounds k M, rfl, hb, ?_, hnc, hcm, by simpa using hcs, ?_⟩⟩
    · rw [cell_of_row w g k _ e _ hg, ← ht, List.getElem?_take, if_pos (by omega), Array.getElem?_toList]
    · simp [World.setCell, Array.getElem?_modify, hg]
    · rw [← ht, Array.toList_setIfInBounds, List.take_set]

theorem fill_step (xs : List Value) (M : Value) (k n : Nat) (hn : xs.length = n) (hk : k < n) : (List.replicate k M ++ xs.drop k).set k M = List.replicate (k + 1) M ++ xs.drop (k + 1) := by
  rw [List.set_append_right _ _ (by simp)]
  rw [List.length_replicate, Nat.sub_self, List.drop_eq_getElem_cons (by omega), List.set_cons_zero, List.replicate_succ', List.append_assoc]
  rfl

end Go.Proofs.YtcfjhbcpjpgodaaDoor
namespace Go.Proofs.YtcfjhbcpjpgodaaDoor
open Go.RowKit

/-- A list all of whose elements are M, in no block x, but in block y, or in one from B on. -/
def MarkedX (x y : Option Nat) (B : Nat) (w : World) (v : Value) (n : Nat) (M : Value) : Prop := ∃ p c, v = .slice p n c ∧ ∀ i, i < n → ∃ b o, p = some ⟨b, o, none⟩ ∧ b < w.heap.size ∧ (some b ≠ x ∧ (some b = y ∨ B ≤ b)) ∧ w.cell? ⟨b, o + i, none⟩ = some M

theorem MarkedX.marked {x y : Option Nat} {B : Nat} {w : World} {v : Value} {n : Nat} {M : Value} (h : MarkedX x y B w v n M) : Marked w v n M := by
  obtain ⟨p, c, e, hl⟩ := h
  refine ⟨p, c, e, fun i hi => ?_⟩
  obtain ⟨b, o, e1, hb, _, hc⟩ := hl i hi
  exact ⟨b, o, e1, hb, hc⟩

theorem MarkedX.less {x y : Option Nat} {B B' : Nat} {w : World} {v : Value} {n : Nat} {M : Value} (h : MarkedX x y B w v n M) (hB : B' ≤ B) : MarkedX x y B' w v n M := by
  obtain ⟨p, c, e, hl⟩ := h
  refine ⟨p, c, e, fun i hi => ?_⟩
  obtain ⟨b, o, e1, hb, hx, hc⟩ := hl i hi
  exact ⟨b, o, e1, hb, ⟨hx.1, hx.2.imp id (Nat.le_trans hB)⟩, hc⟩

theorem MarkedX.own {x y : Option Nat} {B : Nat} {w : World} {v : Value} {n base e : Nat} {M : Value} (h : w.ownsRow base e 1 v n (List.replicate n M)) (hx : ∀ g, v.ownBlock = some g → some g ≠ x) (hy : ∀ g, v.ownBlock = some g → some g = y ∨ B ≤ g) : MarkedX x y B w v n M := by
  obtain ⟨p, c, rfl, hl⟩ := Marked.own h
  refine ⟨p, c, rfl, fun i hi => ?_⟩
  obtain ⟨b, o, rfl, hb, hc⟩ := hl i hi
  exact ⟨b, o, rfl, hb, ⟨hx b rfl, hy b rfl⟩, hc⟩

theorem MarkedX.later {x y : Option Nat} {B : Nat} {w w' : World} {v : Value} {n : Nat} {M : Value} (h : MarkedX x y B w v n M) (hs : w.heap.size ≤ w'.heap.size) (hc : ∀ b j, some b ≠ x → w.cell? ⟨b, j, none⟩ = some M → w'.cell? ⟨b, j, none⟩ = some M) : MarkedX x y B w' v n M := by
  obtain ⟨p, c, rfl, hl⟩ := h
  refine ⟨p, c, rfl, fun i hi => ?_⟩
  obtain ⟨b, o, e, hb, hx, hcell⟩ := hl i hi
  exact ⟨b, o, e, by omega, hx, hc _ _ hx.1 hcell⟩

theorem MarkedX.both {x x' y : Option Nat} {B : Nat} {w w' : World} {v : Value} {n : Nat} {M : Value} (h : MarkedX x y B w v n M) (hg : w.grownBy w' x) (hat : x' = x ∨ x' = some w.heap.size) : MarkedX x' y B w' v n M := by
  obtain ⟨p, c, rfl, hl⟩ := h
  refine ⟨p, c, rfl, fun i hi => ?_⟩
  obtain ⟨b, o, e, hb, hx, hcell⟩ := hl i hi
  refine ⟨b, o, e, by have := hg.size; omega, ⟨?_, hx.2⟩, ?_⟩
  · rcases hat with rfl | rfl
    · exact hx.1
    · intro e2
      cases e2
      omega
  · rw [← hcell]
    exact World.cell?_of_block (w := w) (a := ⟨b, o + i, none⟩) (hg.block b hb hx.1)

theorem marks_book {W : World} {bk b j : Nat} {lv tv v' M : Value} {t : TypeId} (hbk : W.heap[bk]? = some (.cells #[lv, tv] t (0, 0))) (hne : lv ≠ M) (h : W.cell? ⟨b, j, none⟩ = some M) : (W.setCell ⟨bk, 0, none⟩ v').cell? ⟨b, j, none⟩ = some M := by
  by_cases e : b = bk
  · subst e
    have hn : (W.setCell ⟨b, 0, none⟩ v').heap[b]? = some (.cells #[v', tv] t (0, 0)) := by simp [World.setCell, Array.getElem?_modify, hbk]
    rw [cell_of_row W b j _ _ _ hbk] at h
    rw [cell_of_row _ b j _ _ _ hn]
    match j, h with
    | 0, h => simp at h; exact absurd h hne
    | 1, h => simpa using h
    | j + 2, h => simp at h
  · rw [← h]
    exact World.cell?_of_block (w := W) (a := ⟨b, j, none⟩) ((only_setCell W bk 0 v').block b e)

/-- A new block with these cells, as a slice. -/
def Built (B : Nat) (W : World) (v : Value) (k : Nat) (C : Array Value) (t : TypeId) : Prop := ∃ g, v = .slice (some ⟨g, 0, none⟩) k k ∧ B ≤ g ∧ W.heap[g]? = some (.cells C t (0, 0))

theorem Built.kept {B : Nat} {W W' : World} {v : Value} {k : Nat} {C : Array Value} {t : TypeId} (h : Built B W v k C t) (hb : ∀ g, B ≤ g → g < W.heap.size → W'.heap[g]? = W.heap[g]?) : Built B W' v k C t := by
  obtain ⟨g, e, hB, hg⟩ := h
  refine ⟨g, e, hB, ?_⟩
  have hlt : g < W.heap.size := by
    rcases Nat.lt_or_ge g W.heap.size with h' | h'
    · exact h'
    · simp [Array.getElem?_eq_none h'] at hg
  rw [hb g hB hlt]
  exact hg

theorem Built.alloc {B : Nat} (W : World) (hB : B ≤ W.heap.size) (k : Nat) (C : Array Value) (t : TypeId) : Built B (W.alloc (.cells C t)) (.slice (some ⟨W.heap.size, 0, none⟩) k k) k C t := ⟨W.heap.size, rfl, hB, heap_alloc_new W _⟩

/-- What holds, by what has come up. -/
structure KeepI (bk K base base0 n : Nat) (lv tv v M : Value) (evs : List Value) (w0 : World) (l : Nat → Bool) (W : World) (v26 v30 v31 v35 v36 v44 v45 v46 v47 v48 v49 v50 : Value) : Prop where
  t : ∀ i, i ∈ [0, 1, 2, 3, 5, 6, 7, 10, 11, 12, 15, 16, 17, 18, 19, 20, 21] → l i = true
  os : W.os = w0.os
  tape : W.tape = w0.tape
  output : W.output = w0.output
  sz : w0.heap.size ≤ W.heap.size
  fr : ∀ k, k < w0.heap.size → k ≠ bk → some k ≠ lv.ownBlock → some k ≠ v.ownBlock → W.heap[k]? = w0.heap[k]?
  own : W.ownsRow base 3 1 v n (List.replicate n M)
  p4 : l 4 = true → v26 = lv
  p8 : l 8 = true → Built w0.heap.size W v30 1 #[M] 3
  p13 : l 13 = true → Built w0.heap.size W v35 2 #[M, M] 3
  p22 : l 22 = true → Built w0.heap.size W v44 6 #[M, M, M, M, M, M] 3
  p9 : l 9 = true → MarkedX lv.ownBlock v.ownBlock w0.heap.size W v31 (n + 1) M
  p14 : l 14 = true → MarkedX lv.ownBlock v.ownBlock w0.heap.size W v36 (n + 2) M
  p23 : l 23 = true → MarkedX lv.ownBlock v.ownBlock w0.heap.size W v45 (n + 6) M
  p24 : l 24 = true → Built w0.heap.size W v46 4 #[v, v31, v36, v45] 38
  p25 : l 25 = true → Built w0.heap.size W v47 1 #[v46] 98
  lvo : l 26 = false → W.ownsRow base0 98 1 lv K evs
  p26 : l 26 = true → W.ownsRow base0 98 1 v48 (K + 1) (evs ++ [v46]) ∧ ∀ g, v48.ownBlock = some g → lv.ownBlock = some g ∨ w0.heap.size ≤ g
  p26m : l 26 = true → MarkedX v48.ownBlock v.ownBlock w0.heap.size W v n M ∧ MarkedX v48.ownBlock v.ownBlock w0.heap.size W v31 (n + 1) M ∧ MarkedX v48.ownBlock v.ownBlock w0.heap.size W v36 (n + 2) M ∧ MarkedX v48.ownBlock v.ownBlock w0.heap.size W v45 (n + 6) M
  c24 : l 24 = true → l 9 = true ∧ l 14 = true ∧ l 23 = true
  c25 : l 25 = true → l 24 = true
  c26 : l 26 = true → l 25 = true
  c29 : l 29 = true → l 26 = true ∧ l 4 = true
  p27 : l 27 = true → v49 = .pointer (some ⟨bk, 0, none⟩)
  p28 : l 28 = true → v50 = .pointer (some ⟨bk, 0, none⟩)
  bk0 : l 29 = false → W.heap[bk]? = some (.cells #[lv, tv] 44 (0, 0))
  bk1 : l 29 = true → W.heap[bk]? = some (.cells #[v48, tv] 44 (0, 0))

/-- What keep leaves. -/
def KeepP (bk K base0 n : Nat) (lv tv v M : Value) (evs : List Value) (w w' : World) : Prop :=
  ∃ lv' ge v1 v2 v3, w'.heap[bk]? = some (.cells #[lv', tv] 44 (0, 0)) ∧ w'.ownsRow base0 98 1 lv' (K + 1) (evs ++ [.slice (some ⟨ge, 0, none⟩) 4 4]) ∧ (∀ g, lv'.ownBlock = some g → lv.ownBlock = some g ∨ w.heap.size ≤ g) ∧
    w.heap.size ≤ ge ∧ w'.heap[ge]? = some (.cells #[v, v1, v2, v3] 38 (0, 0)) ∧
    MarkedX lv'.ownBlock v.ownBlock w.heap.size w' v n M ∧ MarkedX lv'.ownBlock v.ownBlock w.heap.size w' v1 (n + 1) M ∧ MarkedX lv'.ownBlock v.ownBlock w.heap.size w' v2 (n + 2) M ∧ MarkedX lv'.ownBlock v.ownBlock w.heap.size w' v3 (n + 6) M ∧
    w'.os = w.os ∧ w'.tape = w.tape ∧ w'.output = w.output ∧ w.heap.size ≤ w'.heap.size ∧ ∀ k, k < w.heap.size → k ≠ bk → some k ≠ lv.ownBlock → some k ≠ v.ownBlock → w'.heap[k]? = w.heap[k]?

/-- How the pieces lie apart. -/
structure KeepS (bk base : Nat) (lv v : Value) (w0 : World) : Prop where
  bv : ∀ g, v.ownBlock = some g → base ≤ g ∧ g < w0.heap.size
  bl : ∀ g, lv.ownBlock = some g → (g < w0.heap.size ∧ g ≠ bk) ∧ v.ownBlock ≠ some g
  bb : bk < base
  bw : base ≤ w0.heap.size

theorem KeepI.more {bk K base base0 n : Nat} {lv tv v M : Value} {evs : List Value} {w0 : World} {l : Nat → Bool} {W W' : World} {v26 v30 v31 v35 v36 v44 v45 v46 v47 v48 v49 v50 : Value}
    (h : KeepI bk K base base0 n lv tv v M evs w0 l W v26 v30 v31 v35 v36 v44 v45 v46 v47 v48 v49 v50) (hS : KeepS bk base lv v w0) (hg : W.grownBy W' v.ownBlock) (hown : W'.ownsRow base 3 1 v n (List.replicate n M))
    (hc : ∀ b j, W.cell? ⟨b, j, none⟩ = some M → W'.cell? ⟨b, j, none⟩ = some M) : KeepI bk K base base0 n lv tv v M evs w0 l W' v26 v30 v31 v35 v36 v44 v45 v46 v47 v48 v49 v50 := by
  have hsz := h.sz
  have nv : ∀ g, w0.heap.size ≤ g → some g ≠ v.ownBlock := fun g hg' e => by have := (hS.bv g e.symm).2; omega
  have hbt : ∀ g, w0.heap.size ≤ g → g < W.heap.size → W'.heap[g]? = W.heap[g]? := fun g h1 h2 => hg.block g h2 (nv g h1)
  have hbk : W'.heap[bk]? = W.heap[bk]? := hg.block bk (by have := hS.bb; have := hS.bw; omega) (fun e => by have := (hS.bv bk e.symm).1; have := hS.bb; omega)
  have hlv : ∀ g, lv.ownBlock = some g → some g ≠ v.ownBlock := fun g e e2 => (hS.bl g e).2 e2.symm
  exact {
    t := h.t, os := hg.os.trans h.os, tape := hg.tape.trans h.tape, output := hg.output.trans h.output, sz := Nat.le_trans h.sz hg.size
    fr := fun k h1 h2 h3 h4 => (hg.block k (by omega) h4).trans (h.fr k h1 h2 h3 h4)
    own := hown, p4 := h.p4
    p8 := fun e => (h.p8 e).kept hbt, p13 := fun e => (h.p13 e).kept hbt, p22 := fun e => (h.p22 e).kept hbt
    p9 := fun e => (h.p9 e).later hg.size (fun b j _ => hc b j), p14 := fun e => (h.p14 e).later hg.size (fun b j _ => hc b j), p23 := fun e => (h.p23 e).later hg.size (fun b j _ => hc b j)
    p24 := fun e => (h.p24 e).kept hbt, p25 := fun e => (h.p25 e).kept hbt
    lvo := fun e => own_blocks (h.lvo e) (fun g e1 h2 => hg.block g h2 (hlv g e1))
    p26 := fun e => ⟨own_blocks (h.p26 e).1 (fun g e1 h2 => hg.block g h2 (by rcases (h.p26 e).2 g e1 with e3 | e3; exact hlv g e3; exact nv g e3)), (h.p26 e).2⟩
    p26m := fun e => ⟨(h.p26m e).1.later hg.size (fun b j _ => hc b j), (h.p26m e).2.1.later hg.size (fun b j _ => hc b j), (h.p26m e).2.2.1.later hg.size (fun b j _ => hc b j), (h.p26m e).2.2.2.later hg.size (fun b j _ => hc b j)⟩
    c24 := h.c24, c25 := h.c25, c26 := h.c26, c29 := h.c29
    p27 := h.p27, p28 := h.p28
    bk0 := fun e => hbk.trans (h.bk0 e), bk1 := fun e => hbk.trans (h.bk1 e) }

theorem KeepI.alloc {bk K base base0 n : Nat} {lv tv v M : Value} {evs : List Value} {w0 : World} {l : Nat → Bool} {W : World} {v26 v30 v31 v35 v36 v44 v45 v46 v47 v48 v49 v50 : Value}
    (h : KeepI bk K base base0 n lv tv v M evs w0 l W v26 v30 v31 v35 v36 v44 v45 v46 v47 v48 v49 v50) (hS : KeepS bk base lv v w0) (o : Obj) : KeepI bk K base base0 n lv tv v M evs w0 l (W.alloc o) v26 v30 v31 v35 v36 v44 v45 v46 v47 v48 v49 v50 :=
  h.more hS ⟨rfl, rfl, rfl, by simp, fun k hk _ => Below.heap_alloc W o k hk⟩ (h.own.alloc o) (fun b j hb => by
    rw [← hb]
    exact World.cell?_of_block (w := W) (a := ⟨b, j, none⟩) (Below.heap_alloc W o b (cell_lt hb)))

end Go.Proofs.YtcfjhbcpjpgodaaDoor
