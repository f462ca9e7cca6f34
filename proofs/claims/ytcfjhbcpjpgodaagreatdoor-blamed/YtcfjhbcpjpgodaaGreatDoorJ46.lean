/- Proved here: the mark of a number; plain facts on lists that read as marks. · Proved here: what holds inside the statement in which the book keeps a list, whatever has come up of it so far, and that more memory does not harm it. -/
import Derived.Deep.RegionHeld
import Derived.Test.YtcfjhbcpjpgodaaGreatDoorMarks
import Derived.Test.YtcfjhbcpjpgodaaGreatDoorJ9
namespace Go.Proofs.YtcfjhbcpjpgodaaGreatDoor
open Go.RowKit

/-- A list all of whose elements are M. -/
def Marked (w : World) (v : Value) (n : Nat) (M : Value) : Prop := ∃ p c, v = .slice p n c ∧ Lies w w.heap.size p n (fun _ => M)

theorem Marked.later {w w' : World} {v : Value} {n : Nat} {M : Value} (h : Marked w v n M) (hs : w.heap.size ≤ w'.heap.size) (hc : ∀ b j, w.cell? ⟨b, j, none⟩ = some M → w'.cell? ⟨b, j, none⟩ = some M) : Marked w' v n M := by
  obtain ⟨p, c, rfl, hl⟩ := h
  refine ⟨p, c, rfl, fun i hi => ?_⟩
  obtain ⟨b, o, e, hb, hcell⟩ := hl i hi
  exact ⟨b, o, e, by omega, hc _ _ hcell⟩

theorem Marked.own {w : World} {v : Value} {n base e : Nat} {M : Value} (h : w.ownsRow base e 1 v n (List.replicate n M)) : Marked w v n M := by
  rcases h.2 with ⟨rfl, rfl⟩ | ⟨g, cap, cur, rfl, hb, hg, hnc, hcm, hcs, ht⟩
  · exact ⟨none, 0, rfl, fun i hi => by omega⟩
  · refine ⟨_, cap, rfl, fun i hi => ⟨g, 0, rfl, ?_, ?_⟩⟩
    · rcases Nat.lt_or_ge g w.heap.size with h' | h'
      · exact h'
      · simp [Array.getElem?_eq_none h'] at hg
    · rw [cell_of_row w g (0 + i) _ e _ hg, Nat.zero_add]
      have e1 : (cur.toList.take (n * 1))[i]? = (List.replicate n M)[i]? := by rw [ht]
      rw [List.getElem?_take, if_pos (by omega), List.getElem?_replicate, if_pos hi] at e1
      rw [← Array.getElem?_toList, e1]

end Go.Proofs.YtcfjhbcpjpgodaaGreatDoor
namespace Go.Proofs.YtcfjhbcpjpgodaaGreatDoor
open Go.RowKit

/-- A list all of whose elements are M, in no block x, but in block y, or in one from B on. -/
def MarkedX (x y : Option Nat) (B : Nat) (w : World) (v : Value) (n : Nat) (M : Value) : Prop := ∃ p c, v = .slice p n c ∧ ∀ i, i < n → ∃ b o, p = some ⟨b, o, none⟩ ∧ b < w.heap.size ∧ (some b ≠ x ∧ (some b = y ∨ B ≤ b)) ∧ w.cell? ⟨b, o + i, none⟩ = some M

theorem MarkedX.less {x y : Option Nat} {B B' : Nat} {w : World} {v : Value} {n : Nat} {M : Value} (h : MarkedX x y B w v n M) (hB : B' ≤ B) : MarkedX x y B' w v n M := by
  obtain ⟨p, c, e, hl⟩ := h
  refine ⟨p, c, e, fun i hi => ?_⟩
  obtain ⟨b, o, e1, hb, hx, hc⟩ := hl i hi
  exact ⟨b, o, e1, hb, ⟨hx.1, hx.2.imp id (Nat.le_trans hB)⟩, hc⟩

theorem MarkedX.own {x y : Option Nat} {B : Nat} {w : World} {v : Value} {n base e : Nat} {M : Value} (h : w.ownsRow base e 1 v n (List.replicate n M)) (hx : ∀ g, v.ownBlock = some g → some g ≠ x) (hy : ∀ g, v.ownBlock = some g → some g = y ∨ B ≤ g) : MarkedX x y B w v n M := by
  obtain ⟨p, c, rfl, hl⟩ := Marked.own h
  refine ⟨p, c, rfl, fun i hi => ?_⟩
  obtain ⟨b, o, rfl, hb, hc⟩ := hl i hi
  exact ⟨b, o, rfl, hb, ⟨hx b rfl, hy b rfl⟩, hc⟩

theorem MarkedX.later {x y : Option Nat} {B : Nat} {w w' : World} {v : Value} {n : Nat} {M : Value} (h : MarkedX x y B w v n M) (hs : w.heap.size ≤ w'.heap.size) (hc : ∀ b j, some b ≠ x → w.cell? ⟨b, j, none⟩ = some M → w'.cell? ⟨b, j, none⟩ = some M) : MarkedX x y B w' v n M := by
  obtain ⟨p, c, rfl, hl⟩ := h
  refine ⟨p, c, rfl, fun i hi => ?_⟩
  obtain ⟨b, o, e, hb, hx, hcell⟩ := hl i hi
  exact ⟨b, o, e, by omega, hx, hc _ _ hx.1 hcell⟩

/-- A new block with these cells, as a slice. -/
def Built (B : Nat) (W : World) (v : Value) (k : Nat) (C : Array Value) (t : TypeId) : Prop := ∃ g, v = .slice (some ⟨g, 0, none⟩) k k ∧ B ≤ g ∧ W.heap[g]? = some (.cells C t (0, 0))

theorem Built.kept {B : Nat} {W W' : World} {v : Value} {k : Nat} {C : Array Value} {t : TypeId} (h : Built B W v k C t) (hb : ∀ g, B ≤ g → g < W.heap.size → W'.heap[g]? = W.heap[g]?) : Built B W' v k C t := by
  obtain ⟨g, e, hB, hg⟩ := h
  refine ⟨g, e, hB, ?_⟩
  have hlt : g < W.heap.size := by
    rcases Nat.lt_or_ge g W.heap.size with h' | h'
    · exact h'
    · simp [Array.getElem?_eq_none h'] at hg
  rw [hb g hB hlt]
  exact hg

theorem Built.alloc {B : Nat} (W : World) (hB : B ≤ W.heap.size) (k : Nat) (C : Array Value) (t : TypeId) : Built B (W.alloc (.cells C t)) (.slice (some ⟨W.heap.size, 0, none⟩) k k) k C t := ⟨W.heap.size, rfl, hB, heap_alloc_new W _⟩

/-- What holds, by what has come up. -/
structure KeepI (bk K base base0 n : Nat) (lv tv v M : Value) (evs : List Value) (w0 : World) (l : Nat → Bool) (W : World) (v26 v30 v31 v35 v36 v44 v45 v46 v47 v48 v49 v50 : Value) : Prop where
  t : ∀ i, i ∈ [0, 1, 2, 3, 5, 6, 7, 10, 11, 12, 15, 16, 17, 18, 19, 20, 21] → l i = true
  os : W.os = w0.os
  tape : W.tape = w0.tape
  output : W.output = w0.output
  sz : w0.heap.size ≤ W.heap.size
  fr : ∀ k, k < w0.heap.size → k ≠ bk → some k ≠ lv.ownBlock → some k ≠ v.ownBlock → W.heap[k]? = w0.heap[k]?
  own : W.ownsRow base 3 1 v n (List.replicate n M)
  p4 : l 4 = true → v26 = lv
  p8 : l 8 = true → Built w0.heap.size W v30 1 #[M] 3
  p13 : l 13 = true → Built w0.heap.size W v35 2 #[M, M] 3
  p22 : l 22 = true → Built w0.heap.size W v44 6 #[M, M, M, M, M, M] 3
  p9 : l 9 = true → MarkedX lv.ownBlock v.ownBlock w0.heap.size W v31 (n + 1) M
  p14 : l 14 = true → MarkedX lv.ownBlock v.ownBlock w0.heap.size W v36 (n + 2) M
  p23 : l 23 = true → MarkedX lv.ownBlock v.ownBlock w0.heap.size W v45 (n + 6) M
  p24 : l 24 = true → Built w0.heap.size W v46 4 #[v, v31, v36, v45] 22
  p25 : l 25 = true → Built w0.heap.size W v47 1 #[v46] 144
  lvo : l 26 = false → W.ownsRow base0 144 1 lv K evs
  p26 : l 26 = true → W.ownsRow base0 144 1 v48 (K + 1) (evs ++ [v46]) ∧ ∀ g, v48.ownBlock = some g → lv.ownBlock = some g ∨ w0.heap.size ≤ g
  p26m : l 26 = true → MarkedX v48.ownBlock v.ownBlock w0.heap.size W v n M ∧ MarkedX v48.ownBlock v.ownBlock w0.heap.size W v31 (n + 1) M ∧ MarkedX v48.ownBlock v.ownBlock w0.heap.size W v36 (n + 2) M ∧ MarkedX v48.ownBlock v.ownBlock w0.heap.size W v45 (n + 6) M
  c24 : l 24 = true → l 9 = true ∧ l 14 = true ∧ l 23 = true
  c25 : l 25 = true → l 24 = true
  c26 : l 26 = true → l 25 = true
  c29 : l 29 = true → l 26 = true ∧ l 4 = true
  p27 : l 27 = true → v49 = .pointer (some ⟨bk, 0, none⟩)
  p28 : l 28 = true → v50 = .pointer (some ⟨bk, 0, none⟩)
  bk0 : l 29 = false → W.heap[bk]? = some (.cells #[lv, tv] 34 (0, 0))
  bk1 : l 29 = true → W.heap[bk]? = some (.cells #[v48, tv] 34 (0, 0))

/-- How the pieces lie apart. -/
structure KeepS (bk base : Nat) (lv v : Value) (w0 : World) : Prop where
  bv : ∀ g, v.ownBlock = some g → base ≤ g ∧ g < w0.heap.size
  bl : ∀ g, lv.ownBlock = some g → (g < w0.heap.size ∧ g ≠ bk) ∧ v.ownBlock ≠ some g
  bb : bk < base
  bw : base ≤ w0.heap.size

theorem KeepI.more {bk K base base0 n : Nat} {lv tv v M : Value} {evs : List Value} {w0 : World} {l : Nat → Bool} {W W' : World} {v26 v30 v31 v35 v36 v44 v45 v46 v47 v48 v49 v50 : Value}
    (h : KeepI bk K base base0 n lv tv v M evs w0 l W v26 v30 v31 v35 v36 v44 v45 v46 v47 v48 v49 v50) (hS : KeepS bk base lv v w0) (hg : W.grownBy W' v.ownBlock) (hown : W'.ownsRow base 3 1 v n (List.replicate n M))
    (hc : ∀ b j, W.cell? ⟨b, j, none⟩ = some M → W'.cell? ⟨b, j, none⟩ = some M) : KeepI bk K base base0 n lv tv v M evs w0 l W' v26 v30 v31 v35 v36 v44 v45 v46 v47 v48 v49 v50 := by
  have hsz := h.sz
  have nv : ∀ g, w0.heap.size ≤ g → some g ≠ v.ownBlock := fun g hg' e => by have := (hS.bv g e.symm).2; omega
  have hbt : ∀ g, w0.heap.size ≤ g → g < W.heap.size → W'.heap[g]? = W.heap[g]? := fun g h1 h2 => hg.block g h2 (nv g h1)
  have hbk : W'.heap[bk]? = W.heap[bk]? := hg.block bk (by have := hS.bb; have := hS.bw; omega) (fun e => by have := (hS.bv bk e.symm).1; have := hS.bb; omega)
  have hlv : ∀ g, lv.ownBlock = some g → some g ≠ v.ownBlock := fun g e e2 => (hS.bl g e).2 e2.symm
  exact {
    t := h.t, os := hg.os.trans h.os, tape := hg.tape.trans h.tape, output := hg.output.trans h.output, sz := Nat.le_trans h.sz hg.size
    fr := fun k h1 h2 h3 h4 => (hg.block k (by omega) h4).trans (h.fr k h1 h2 h3 h4)
    own := hown, p4 := h.p4
    p8 := fun e => (h.p8 e).kept hbt, p13 := fun e => (h.p13 e).kept hbt, p22 := fun e => (h.p22 e).kept hbt
    p9 := fun e => (h.p9 e).later hg.size (fun b j _ => hc b j), p14 := fun e => (h.p14 e).later hg.size (fun b j _ => hc b j), p23 := fun e => (h.p23 e).later hg.size (fun b j _ => hc b j)
    p24 := fun e => (h.p24 e).kept hbt, p25 := fun e => (h.p25 e).kept hbt
    lvo := fun e => own_blocks (h.lvo e) (fun g e1 h2 => hg.block g h2 (hlv g e1))
    p26 := fun e => ⟨own_blocks (h.p26 e).1 (fun g e1 h2 => hg.block g h2 (by rcases (h.p26 e).2 g e1 with e3 | e3; exact hlv g e3; exact nv g e3)), (h.p26 e).2⟩
    p26m := fun e => ⟨(h.p26m e).1.later hg.size (fun b j _ => hc b j), (h.p26m e).2.1.later hg.size (fun b j _ => hc b j), (h.p26m e).2.2.1.later hg.size (fun b j _ => hc b j), (h.p26m e).2.2.2.later hg.size (fun b j _ => hc b j)⟩
    c24 := h.c24, c25 := h.c25, c26 := h.c26, c29 := h.c29
    p27 := h.p27, p28 := h.p28
    bk0 := fun e => hbk.trans (h.bk0 e), bk1 := fun e => hbk.trans (h.bk1 e) }

theorem KeepI.alloc {bk K base base0 n : Nat} {lv tv v M : Value} {evs : List Value} {w0 : World} {l : Nat → Bool} {W : World} {v26 v30 v31 v35 v36 v44 v45 v46 v47 v48 v49 v50 : Value}
    (h : KeepI bk K base base0 n lv tv v M evs w0 l W v26 v30 v31 v35 v36 v44 v45 v46 v47 v48 v49 v50) (hS : KeepS bk base lv v w0) (o : Obj) : KeepI bk K base base0 n lv tv v M evs w0 l (W.alloc o) v26 v30 v31 v35 v36 v44 v45 v46 v47 v48 v49 v50 :=
  h.more hS ⟨rfl, rfl, rfl, by simp, fun k hk _ => Below.heap_alloc W o k hk⟩ (h.own.alloc o) (fun b j hb => by
    rw [← hb]
    exact World.cell?_of_block (w := W) (a := ⟨b, j, none⟩) (Below.heap_alloc W o b (cell_lt hb)))

end Go.Proofs.YtcfjhbcpjpgodaaGreatDoor
