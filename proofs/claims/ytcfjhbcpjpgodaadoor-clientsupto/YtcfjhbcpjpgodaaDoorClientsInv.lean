/- Proved here: what the law of the clients holds in memory from one try to the next: a ring with its keys, two clients, the book, and a list of frames; what signing, appending, accepting and keeping leave of it. -/
import Derived.Test.YtcfjhbcpjpgodaaDoorJ2
import Derived.Test.YtcfjhbcpjpgodaaDoorFollow
import Derived.Test.YtcfjhbcpjpgodaaDoorRefAccept
import Derived.Test.YtcfjhbcpjpgodaaDoorJ41
import Derived.Test.YtcfjhbcpjpgodaaDoorJ42
import Derived.Test.YtcfjhbcpjpgodaaDoorJ6
import Derived.Test.YtcfjhbcpjpgodaaDoorJ21
import Derived.Test.YtcfjhbcpjpgodaaDoorJ29
namespace Go.Proofs.YtcfjhbcpjpgodaaDoor
open Go.RowKit

/-- A block that a ring may have. -/
def FTy (w : World) (k : Nat) : Prop := ∃ c t, w.heap[k]? = some (.cells c t (0, 0)) ∧ (t = 102 ∨ t = 39 ∨ t = 9)

theorem FTy.ne {w : World} {k : Nat} (h : FTy w k) {c : Array Value} {t : TypeId} (hk : w.heap[k]? = some (.cells c t (0, 0))) : t = 102 ∨ t = 39 ∨ t = 9 := by
  obtain ⟨c', t', e, h1⟩ := h
  rw [hk] at e
  cases e
  exact h1

theorem RingI.tight {F : Nat → Prop} {rb n : Nat} {sg : Nat → List ByteArray} {w : World} (h : RingI F rb n sg w) : ∃ F0 : Nat → Prop, (∀ k, F0 k → F k) ∧ RingI F0 rb n sg w ∧ ∀ k, F0 k → FTy w k := by
  obtain ⟨ob, cap, cur, iv, h1, h2, h3, h4, h5, h6, h7, h8⟩ := h
  refine ⟨fun k => k = rb ∨ k = ob ∨ ∃ i, i < n ∧ (iv i).ownBlock = some k, ?_, ⟨ob, cap, cur, iv, h1, h2, h3, h4, h5, Or.inl rfl, Or.inr (Or.inl rfl), fun i hi g e => Or.inr (Or.inr ⟨i, hi, e⟩)⟩, ?_⟩
  · intro k hk
    rcases hk with hk | hk | ⟨i, hi, e⟩
    · rw [hk]; exact h6
    · rw [hk]; exact h7
    · exact h8 i hi k e
  · intro k hk
    rcases hk with hk | hk | ⟨i, hi, e⟩
    · exact ⟨_, _, by rw [hk]; exact h1, Or.inl rfl⟩
    · exact ⟨_, _, by rw [hk]; exact h2, Or.inr (Or.inl rfl)⟩
    · rcases (h4 i hi).2 with ⟨e0, _⟩ | ⟨g, cap', cur', e0, _, hg, _⟩
      · rw [e0] at e
        cases e
      · rw [e0] at e
        cases e
        exact ⟨_, _, hg, Or.inr (Or.inr rfl)⟩

theorem own_cells {w : World} {base e n g : Nat} {v : Value} {xs : List Value} (h : w.ownsRow base e 1 v n xs) (hg : v.ownBlock = some g) : ∃ c, w.heap[g]? = some (.cells c e (0, 0)) := by
  rcases h.2 with ⟨rfl, _⟩ | ⟨g1, _, c, rfl, _, hh1, _⟩
  · cases hg
  · cases hg
    exact ⟨c, hh1⟩

theorem own_typeK {w : World} {base e n g : Nat} {v : Value} {xs : List Value} (h : w.ownsRow base e 1 v n xs) (hg : v.ownBlock = some g) : ∀ (t : TypeId) (c : Array Value), w.heap[g]? = some (.cells c t (0, 0)) → t = e := by
  intro t c hc
  obtain ⟨c', hc'⟩ := own_cells h hg
  rw [hc] at hc'
  cases hc'
  rfl

/-- The book stays where only blocks that it does not own turn. -/
theorem BookI.same {A S : Nat → Prop} {bk base0 K : Nat} {w w' : World} (h : BookI A bk base0 K w) (hs : SameBut S w w') (hA : ∀ k, S k → A k) (hty : ∀ k, S k → ∃ c t, w.heap[k]? = some (.cells c t (0, 0)) ∧ t ≠ 44 ∧ t ≠ 98 ∧ t ≠ 38) : BookI A bk base0 K w' := by
  obtain ⟨lv, evs, h1, h2, h3⟩ := h
  have no : ∀ (k : Nat) (c : Array Value) (t : TypeId), w.heap[k]? = some (.cells c t (0, 0)) → (t = 44 ∨ t = 98 ∨ t = 38) → ¬ S k := fun k c t hk ht hS => by
    obtain ⟨c', t', e, n1, n2, n3⟩ := hty k hS
    rw [hk] at e
    cases e
    rcases ht with h | h | h
    · exact n1 h
    · exact n2 h
    · exact n3 h
  refine ⟨lv, evs, (hs.block bk (heap_lt h1) (no _ _ _ h1 (Or.inl rfl))).trans h1, own_blocks h2 (fun g e hg => hs.block g hg (by obtain ⟨c, hc⟩ := own_cells h2 e; exact no _ _ _ hc (Or.inr (Or.inl rfl)))), fun i ev e => ?_⟩
  obtain ⟨ge, pp, nn, cc, e1, hg, hm⟩ := h3 i ev e
  refine ⟨ge, pp, nn, cc, e1, (hs.block ge (heap_lt hg) (no _ _ _ hg (Or.inr (Or.inr rfl)))).trans hg, fun k hk => ⟨(hm k hk).1, fun j hj => ?_⟩⟩
  obtain ⟨b, o, e2, h4, h5, h6, h7⟩ := (hm k hk).2 j hj
  exact ⟨b, o, e2, Nat.lt_of_lt_of_le h4 hs.size, h5, h6, (World.cell?_of_block (w := w) (a := ⟨b, o + j, none⟩) (hs.block b h4 (fun hS => h6 (hA b hS)))).trans h7⟩

/-- The ring, its keys, the two clients. -/
structure ClI (base rb cx cy : Nat) (ks : Nat → Nat) (kv : Value) (F : Nat → Prop) (sg : Nat → List ByteArray) (x1 : Nat → Int) (h1 : Int) (x2 : Nat → Int) (h2 : Int) (w : World) : Prop where
  ring : RingI F rb 8 sg w
  flt : ∀ k, F k → base ≤ k ∧ k < w.heap.size
  fty : ∀ k, F k → FTy w k
  keys : w.ownsRow base 79 1 kv 8 (keyL ks 8)
  key : ∀ i, i < 8 → KeyAt w (ks i) rb i
  one : ClientAt w cx rb x1 h1
  two : RClientAt w cy rb x2 h2
  low : base ≤ cx ∧ base ≤ cy

/-- The ring and its keys alone. -/
structure RgI (base rb : Nat) (ks : Nat → Nat) (kv : Value) (F : Nat → Prop) (sg : Nat → List ByteArray) (w : World) : Prop where
  ring : RingI F rb 8 sg w
  flt : ∀ k, F k → base ≤ k ∧ k < w.heap.size
  fty : ∀ k, F k → FTy w k
  keys : w.ownsRow base 79 1 kv 8 (keyL ks 8)
  key : ∀ i, i < 8 → KeyAt w (ks i) rb i
theorem RgI.below {base rb : Nat} {ks : Nat → Nat} {kv : Value} {F : Nat → Prop} {sg : Nat → List ByteArray} {w w' : World} (h : RgI base rb ks kv F sg w) (hb : Below w.heap.size w w') : RgI base rb ks kv F sg w' where
  ring := h.ring.frame (fun k hk => hb.block k (h.flt k hk).2)
  flt := fun k hk => ⟨(h.flt k hk).1, Nat.lt_of_lt_of_le (h.flt k hk).2 hb.size⟩
  fty := fun k hk => by
    obtain ⟨c, t, e, ht⟩ := h.fty k hk
    exact ⟨c, t, (hb.block k (h.flt k hk).2).trans e, ht⟩
  keys := own_blocks h.keys (fun g _ hg => hb.block g hg)
  key := fun i hi => blk (h.key i hi) hb
theorem RgI.start {ks : Nat → Nat} {ov kv : Value} {w w' : World} (hr : RingI (fun k => k = w.heap.size ∨ some k = ov.ownBlock) w.heap.size 8 (fun _ => []) w') (ho : w'.ownsRow (w.heap.size + 1) 39 1 ov 8 (List.replicate 8 (.slice none 0 0)))
    (hk : w'.ownsRow (w.heap.size + 1) 79 1 kv 8 (keyL ks 8)) (hks : ∀ i, i < 8 → w.heap.size < ks i ∧ KeyAt w' (ks i) w.heap.size i) (hw : w.heap.size < w'.heap.size) : ∃ F, RgI w.heap.size w.heap.size ks kv F (fun _ => []) w' := by
  obtain ⟨F0, hsub, hr0, hty⟩ := hr.tight
  refine ⟨F0, hr0, fun k hk => ?_, hty, own_base hk (by omega), fun i hi => (hks i hi).2⟩
  rcases hsub k hk with h | h
  · omega
  · have := ho.lt k h.symm
    omega
theorem ClI.of_rg {base rb cx cy : Nat} {ks : Nat → Nat} {kv : Value} {F : Nat → Prop} {sg : Nat → List ByteArray} {x1 x2 : Nat → Int} {h1 h2 : Int} {w : World} (h : RgI base rb ks kv F sg w) (hx : ClientAt w cx rb x1 h1) (hy : RClientAt w cy rb x2 h2) (hc : base ≤ cx) (hd : base ≤ cy) : ClI base rb cx cy ks kv F sg x1 h1 x2 h2 w := ⟨h.ring, h.flt, h.fty, h.keys, h.key, hx, hy, hc, hd⟩

theorem ClI.frame {base rb cx cy : Nat} {ks : Nat → Nat} {kv : Value} {F : Nat → Prop} {sg : Nat → List ByteArray} {x1 x2 : Nat → Int} {h1 h2 : Int} {w w' : World} (h : ClI base rb cx cy ks kv F sg x1 h1 x2 h2 w) (hsz : w.heap.size ≤ w'.heap.size) (hF : ∀ k, F k → w'.heap[k]? = w.heap[k]?)
    (hT : ∀ (k : Nat) (c : Array Value) (t : TypeId), w.heap[k]? = some (.cells c t (0, 0)) → (t = 79 ∨ t = 104 ∨ t = 106 ∨ t = 75) → w'.heap[k]? = w.heap[k]?) : ClI base rb cx cy ks kv F sg x1 h1 x2 h2 w' where
  ring := h.ring.frame hF
  flt := fun k hk => ⟨(h.flt k hk).1, Nat.lt_of_lt_of_le (h.flt k hk).2 hsz⟩
  fty := fun k hk => by
    obtain ⟨c, t, e, ht⟩ := h.fty k hk
    exact ⟨c, t, (hF k hk).trans e, ht⟩
  keys := own_blocks h.keys (fun g e _ => by obtain ⟨c, hc⟩ := own_cells h.keys e; exact hT g c _ hc (Or.inl rfl))
  key := fun i hi => (hT _ _ _ (h.key i hi) (Or.inr (Or.inl rfl))).trans (h.key i hi)
  one := (hT _ _ _ h.one (Or.inr (Or.inr (Or.inl rfl)))).trans h.one
  two := (hT _ _ _ h.two (Or.inr (Or.inr (Or.inr rfl)))).trans h.two
  low := h.low

theorem ClI.below {base rb cx cy : Nat} {ks : Nat → Nat} {kv : Value} {F : Nat → Prop} {sg : Nat → List ByteArray} {x1 x2 : Nat → Int} {h1 h2 : Int} {w w' : World} (h : ClI base rb cx cy ks kv F sg x1 h1 x2 h2 w) (hb : Below w.heap.size w w') : ClI base rb cx cy ks kv F sg x1 h1 x2 h2 w' :=
  h.frame hb.size (fun k hk => hb.block k (h.flt k hk).2) (fun k _ _ hk _ => hb.block k (heap_lt hk))

/-- And the book, and the list of frames of one try. -/
structure TrI (base rb cx cy bk tb : Nat) (C : Array Value) (ks : Nat → Nat) (kv : Value) (F : Nat → Prop) (sg : Nat → List ByteArray) (x1 : Nat → Int) (h1 : Int) (x2 : Nat → Int) (h2 : Int) (B K : Nat) (v : Value) (L : List ByteArray) (w : World) : Prop where
  cl : ClI base rb cx cy ks kv F sg x1 h1 x2 h2 w
  book : BookI (fun b => F b ∨ b = cx ∨ b = cy ∨ B ≤ b) bk (bk + 1) K w
  bnd : B ≤ w.heap.size ∧ base ≤ B
  all : w.ownsRow B 9 1 v L.length (L.map .string)
  allF : ∀ g, v.ownBlock = some g → ¬ F g
  tr : w.heap[tb]? = some (.cells C 78 (0, 0))

theorem TrI.start {base rb cx cy bk tb : Nat} {C : Array Value} {ks : Nat → Nat} {kv : Value} {F : Nat → Prop} {sg : Nat → List ByteArray} {x1 x2 : Nat → Int} {h1 h2 : Int} {K : Nat} {w w' : World} (h : ClI base rb cx cy ks kv F sg x1 h1 x2 h2 w) (hb : BookI (fun b => F b ∨ b = cx ∨ b = cy) bk (bk + 1) K w) (hB : Below w.heap.size w w') (ht : w'.heap[tb]? = some (.cells C 78 (0, 0))) : TrI base rb cx cy bk tb C ks kv F sg x1 h1 x2 h2 w.heap.size K (.slice none 0 0) [] w' where
  cl := h.below hB
  book := (hb.avoid (fun b hlt hb => by
    rcases hb with h1 | h1 | h1 | h1
    · exact Or.inl h1
    · exact Or.inr (Or.inl h1)
    · exact Or.inr (Or.inr h1)
    · omega)).below hB
  bnd := ⟨hB.size, Nat.le_of_lt (Nat.lt_of_le_of_lt h.low.1 (row_lt0 h.one))⟩
  all := World.ownsRow_nil _ _ _ _
  allF := fun g e => by cases e
  tr := ht

theorem TrI.below {base rb cx cy bk tb : Nat} {C : Array Value} {ks : Nat → Nat} {kv : Value} {F : Nat → Prop} {sg : Nat → List ByteArray} {x1 x2 : Nat → Int} {h1 h2 : Int} {B K : Nat} {v : Value} {L : List ByteArray} {w w' : World} (h : TrI base rb cx cy bk tb C ks kv F sg x1 h1 x2 h2 B K v L w) (hb : Below w.heap.size w w') : TrI base rb cx cy bk tb C ks kv F sg x1 h1 x2 h2 B K v L w' where
  cl := h.cl.below hb
  book := h.book.below hb
  bnd := ⟨Nat.le_trans h.bnd.1 hb.size, h.bnd.2⟩
  all := own_blocks h.all (fun g _ hg => hb.block g hg)
  allF := h.allF
  tr := (hb.block _ (heap_lt h.tr)).trans h.tr

theorem TrI.signed {base rb cx cy bk tb : Nat} {C : Array Value} {ks : Nat → Nat} {kv : Value} {F : Nat → Prop} {sg sg' : Nat → List ByteArray} {x1 x2 : Nat → Int} {h1 h2 : Int} {B K : Nat} {v : Value} {L : List ByteArray} {w w' : World} (h : TrI base rb cx cy bk tb C ks kv F sg x1 h1 x2 h2 B K v L w) (hs : SignP F rb 8 sg' w w') : (∃ F', TrI base rb cx cy bk tb C ks kv F' sg' x1 h1 x2 h2 B K v L w') ∧ Below base w w' := by
  obtain ⟨F1, hr, hf, hlt, hsame⟩ := hs
  obtain ⟨F0, hsub, hr0, hty⟩ := hr.tight
  have hnew : ∀ k, k < w.heap.size → ¬ F k → ¬ F0 k := fun k hk hn h' => by
    rcases hf k (hsub k h') with h1 | h1
    · exact hn h1
    · omega
  have nF : ∀ (k : Nat) (c : Array Value) (t : TypeId), w.heap[k]? = some (.cells c t (0, 0)) → t ≠ 102 → t ≠ 39 → t ≠ 9 → w'.heap[k]? = w.heap[k]? := fun k c t hk n1 n2 n3 => hsame.block k (heap_lt hk) (fun hF => by
    rcases (h.cl.fty k hF).ne hk with e | e | e
    · exact n1 e
    · exact n2 e
    · exact n3 e)
  have hcl := h.cl
  refine ⟨⟨F0, ⟨⟨hr0, fun k hk => ⟨?_, hlt k (hsub k hk)⟩, hty, ?_, ?_, ?_, ?_, hcl.low⟩, ?_, ⟨Nat.le_trans h.bnd.1 hsame.size, h.bnd.2⟩, ?_, ?_, (nF _ _ _ h.tr (by decide) (by decide) (by decide)).trans h.tr⟩⟩, ⟨hsame.os, hsame.tape, hsame.output, hsame.size, fun k hk => ?_⟩⟩
  · rcases hf k (hsub k hk) with h1 | h1
    · exact (hcl.flt k h1).1
    · exact Nat.le_trans (Nat.le_trans h.bnd.2 h.bnd.1) h1
  · exact own_blocks hcl.keys (fun g e _ => by obtain ⟨c, hc⟩ := own_cells hcl.keys e; exact nF g c _ hc (by decide) (by decide) (by decide))
  · exact fun i hi => (nF _ _ _ (hcl.key i hi) (by decide) (by decide) (by decide)).trans (hcl.key i hi)
  · exact (nF _ _ _ hcl.one (by decide) (by decide) (by decide)).trans hcl.one
  · exact (nF _ _ _ hcl.two (by decide) (by decide) (by decide)).trans hcl.two
  · refine (h.book.same hsame (fun k hk => Or.inl hk) (fun k hk => ?_)).avoid (fun b _ hb => ?_)
    · obtain ⟨c, t, e, ht⟩ := hcl.fty k hk
      refine ⟨c, t, e, ?_⟩
      rcases ht with rfl | rfl | rfl <;> decide
    · rcases hb with hb | hb
      · rcases hf b (hsub b hb) with h1 | h1
        · exact Or.inl h1
        · exact Or.inr (Or.inr (Or.inr (Nat.le_trans h.bnd.1 h1)))
      · exact Or.inr hb
  · exact own_blocks h.all (fun g hg hlt => hsame.block g hlt (h.allF g hg))
  · exact fun g hg => hnew g (h.all.lt g hg).2 (h.allF g hg)
  · exact hsame.block k (Nat.lt_of_lt_of_le hk (Nat.le_trans h.bnd.2 h.bnd.1)) (fun hF => by have := (hcl.flt k hF).1; omega)

theorem SameBut.of_grown {w w' : World} {v : Value} (hg : w.grownBy w' v.ownBlock) : SameBut (fun k => some k = v.ownBlock) w w' := ⟨hg.os, hg.tape, hg.output, hg.size, fun k hk hn => hg.block k hk hn⟩

theorem TrI.more {base rb cx cy bk tb : Nat} {C : Array Value} {ks : Nat → Nat} {kv : Value} {F : Nat → Prop} {sg : Nat → List ByteArray} {x1 x2 : Nat → Int} {h1 h2 : Int} {B K : Nat} {v v' : Value} {L L' : List ByteArray} {w w' : World} (h : TrI base rb cx cy bk tb C ks kv F sg x1 h1 x2 h2 B K v L w)
    (hown : w'.ownsRow B 9 1 v' L'.length (L'.map .string)) (hg : w.grownBy w' v.ownBlock) (hat : v'.ownBlock = v.ownBlock ∨ v'.ownBlock = some w.heap.size) : TrI base rb cx cy bk tb C ks kv F sg x1 h1 x2 h2 B K v' L' w' where
  cl := h.cl.frame hg.size (fun k hk => hg.block k (h.cl.flt k hk).2 (fun e => h.allF k e.symm hk)) (fun k c t hk ht => hg.block k (heap_lt hk) (fun e => by
    obtain ⟨c', hc'⟩ := own_cells h.all e.symm
    rw [hk] at hc'
    cases hc'
    revert ht
    decide))
  book := h.book.same (SameBut.of_grown hg) (fun k hk => Or.inr (Or.inr (Or.inr (h.all.lt k hk.symm).1))) (fun k hk => by
    obtain ⟨c, hc⟩ := own_cells h.all hk.symm
    exact ⟨c, _, hc, by decide, by decide, by decide⟩)
  bnd := ⟨Nat.le_trans h.bnd.1 hg.size, h.bnd.2⟩
  all := hown
  allF := fun g e hF => by
    rcases hat with h1 | h1
    · exact h.allF g (h1.symm.trans e) hF
    · have e2 := h1.symm.trans e
      cases e2
      have := (h.cl.flt _ hF).2
      omega
  tr := (hg.block _ (heap_lt h.tr) (fun e => by
    obtain ⟨c', hc'⟩ := own_cells h.all e.symm
    have h3 := h.tr
    rw [hc'] at h3
    cases h3)).trans h.tr

/-- Another list of the try instead. -/
theorem TrI.other {base rb cx cy bk tb : Nat} {C : Array Value} {ks : Nat → Nat} {kv : Value} {F : Nat → Prop} {sg : Nat → List ByteArray} {x1 x2 : Nat → Int} {h1 h2 : Int} {B K : Nat} {v v' : Value} {L L' : List ByteArray} {w : World} (h : TrI base rb cx cy bk tb C ks kv F sg x1 h1 x2 h2 B K v L w)
    (hown : w.ownsRow B 9 1 v' L'.length (L'.map .string)) (hF : ∀ g, v'.ownBlock = some g → ¬ F g) : TrI base rb cx cy bk tb C ks kv F sg x1 h1 x2 h2 B K v' L' w := ⟨h.cl, h.book, h.bnd, hown, hF, h.tr⟩

/-- The program's client has accepted, or not. -/
theorem TrI.accept1 {base rb cx cy bk tb : Nat} {C : Array Value} {ks : Nat → Nat} {kv : Value} {F : Nat → Prop} {sg : Nat → List ByteArray} {x1 x2 y : Nat → Int} {h1 h2 h' : Int} {B K : Nat} {v : Value} {L : List ByteArray} {w w' : World} (h : TrI base rb cx cy bk tb C ks kv F sg x1 h1 x2 h2 B K v L w)
    (hc : ClientAt w' cx rb y h') (hb : ButP cx w w') : TrI base rb cx cy bk tb C ks kv F sg y h' x2 h2 B K v L w' := by
  have hone := h.cl.one
  have nF : ∀ (k : Nat) (c : Array Value) (t : TypeId), w.heap[k]? = some (.cells c t (0, 0)) → t ≠ 106 → w'.heap[k]? = w.heap[k]? := fun k c t hk n => hb.block k (heap_lt hk) (fun e => by
    subst e
    unfold ClientAt at hone
    rw [hone] at hk
    cases hk
    exact n rfl)
  have fF : ∀ k, F k → w'.heap[k]? = w.heap[k]? := fun k hk => by
    obtain ⟨c, t, e, ht⟩ := h.cl.fty k hk
    refine nF k c t e ?_
    rcases ht with rfl | rfl | rfl <;> decide
  refine ⟨⟨h.cl.ring.frame fF, fun k hk => ⟨(h.cl.flt k hk).1, Nat.lt_of_lt_of_le (h.cl.flt k hk).2 hb.size⟩, fun k hk => ?_, ?_, ?_, hc, (nF _ _ _ h.cl.two (by decide)).trans h.cl.two, h.cl.low⟩, ?_, ⟨Nat.le_trans h.bnd.1 hb.size, h.bnd.2⟩, ?_, h.allF, (nF _ _ _ h.tr (by decide)).trans h.tr⟩
  · obtain ⟨c, t, e, ht⟩ := h.cl.fty k hk
    exact ⟨c, t, (fF k hk).trans e, ht⟩
  · exact own_blocks h.cl.keys (fun g e _ => by obtain ⟨c, hc⟩ := own_cells h.cl.keys e; exact nF g c _ hc (by decide))
  · exact fun i hi => (nF _ _ _ (h.cl.key i hi) (by decide)).trans (h.cl.key i hi)
  · exact h.book.same hb (fun k hk => Or.inr (Or.inl hk)) (fun k hk => by rw [hk]; exact ⟨_, _, hone, by decide, by decide, by decide⟩)
  · exact own_blocks h.all (fun g e _ => by obtain ⟨c, hc⟩ := own_cells h.all e; exact nF g c _ hc (by decide))

/-- The document's client has accepted, or not. -/
theorem TrI.accept2 {base rb cx cy bk tb : Nat} {C : Array Value} {ks : Nat → Nat} {kv : Value} {F : Nat → Prop} {sg : Nat → List ByteArray} {x1 x2 y : Nat → Int} {h1 h2 h' : Int} {B K : Nat} {v : Value} {L : List ByteArray} {w w' : World} (h : TrI base rb cx cy bk tb C ks kv F sg x1 h1 x2 h2 B K v L w)
    (hc : RClientAt w' cy rb y h') (hb : ButP cy w w') : TrI base rb cx cy bk tb C ks kv F sg x1 h1 y h' B K v L w' := by
  have hone := h.cl.two
  have nF : ∀ (k : Nat) (c : Array Value) (t : TypeId), w.heap[k]? = some (.cells c t (0, 0)) → t ≠ 75 → w'.heap[k]? = w.heap[k]? := fun k c t hk n => hb.block k (heap_lt hk) (fun e => by
    subst e
    unfold RClientAt at hone
    rw [hone] at hk
    cases hk
    exact n rfl)
  have fF : ∀ k, F k → w'.heap[k]? = w.heap[k]? := fun k hk => by
    obtain ⟨c, t, e, ht⟩ := h.cl.fty k hk
    refine nF k c t e ?_
    rcases ht with rfl | rfl | rfl <;> decide
  refine ⟨⟨h.cl.ring.frame fF, fun k hk => ⟨(h.cl.flt k hk).1, Nat.lt_of_lt_of_le (h.cl.flt k hk).2 hb.size⟩, fun k hk => ?_, ?_, ?_, (nF _ _ _ h.cl.one (by decide)).trans h.cl.one, hc, h.cl.low⟩, ?_, ⟨Nat.le_trans h.bnd.1 hb.size, h.bnd.2⟩, ?_, h.allF, (nF _ _ _ h.tr (by decide)).trans h.tr⟩
  · obtain ⟨c, t, e, ht⟩ := h.cl.fty k hk
    exact ⟨c, t, (fF k hk).trans e, ht⟩
  · exact own_blocks h.cl.keys (fun g e _ => by obtain ⟨c, hc⟩ := own_cells h.cl.keys e; exact nF g c _ hc (by decide))
  · exact fun i hi => (nF _ _ _ (h.cl.key i hi) (by decide)).trans (h.cl.key i hi)
  · exact h.book.same hb (fun k hk => Or.inr (Or.inr (Or.inl hk))) (fun k hk => by rw [hk]; exact ⟨_, _, hone, by decide, by decide, by decide⟩)
  · exact own_blocks h.all (fun g e _ => by obtain ⟨c, hc⟩ := own_cells h.all e; exact nF g c _ hc (by decide))

theorem ButP.under {base g : Nat} {w w' : World} (h : ButP g w w') (hg : base ≤ g) (hw : base ≤ w.heap.size) : Below base w w' := ⟨h.os, h.tape, h.output, h.size, fun k hk => h.block k (by omega) (by omega)⟩

/-- The book has kept a list of numbers: the ring and the clients stay. -/
theorem ClI.kept {base rb cx cy bk base' n : Nat} {ks : Nat → Nat} {kv v : Value} {F : Nat → Prop} {sg : Nat → List ByteArray} {x1 x2 : Nat → Int} {h1 h2 : Int} {xs : List Value} {cb : Array Value} {w w' : World} (h : ClI base rb cx cy ks kv F sg x1 h1 x2 h2 w) (hbk : w.heap[bk]? = some (.cells cb 44 (0, 0))) (hv : w.ownsRow base' 3 1 v n xs) (hsz : w.heap.size ≤ w'.heap.size)
    (hfr : ∀ k, k < w.heap.size → k ≠ bk → some k ≠ v.ownBlock → (∀ (t : TypeId) (c : Array Value), w.heap[k]? = some (.cells c t (0, 0)) → t ≠ 98) → w'.heap[k]? = w.heap[k]?) : ClI base rb cx cy ks kv F sg x1 h1 x2 h2 w' := by
  have nF : ∀ (k : Nat) (c : Array Value) (t : TypeId), w.heap[k]? = some (.cells c t (0, 0)) → t ≠ 44 → t ≠ 3 → t ≠ 98 → w'.heap[k]? = w.heap[k]? := fun k c t hk n1 n2 n3 => hfr k (heap_lt hk) (fun e => by
    subst e
    rw [hbk] at hk
    cases hk
    exact n1 rfl) (fun e => by
    obtain ⟨c', hc'⟩ := own_cells hv e.symm
    rw [hk] at hc'
    cases hc'
    exact n2 rfl) (fun t' c' hk' => by
    rw [hk] at hk'
    cases hk'
    exact n3)
  refine h.frame hsz (fun k hk => ?_) (fun k c t hk ht => ?_)
  · obtain ⟨c, t, e, ht⟩ := h.fty k hk
    rcases ht with rfl | rfl | rfl <;> exact nF k c _ e (by decide) (by decide) (by decide)
  · rcases ht with rfl | rfl | rfl | rfl <;> exact nF k c _ hk (by decide) (by decide) (by decide)

/-- A copy of a list of texts with room behind it, and the look that follows wherever both lie as they did. -/
theorem texts_readyM (g : Nat → ByteArray) (p : Option Addr) (n cap : Nat) (w : World) (hn : n ≤ 1099511627776) (hp : NilOr p n cap) (hl : Lies w w.heap.size p n (fun i => .string (g i))) :
    Calls Tryd.prog 15 #[.slice p n cap] w fun e w' => (∃ gp gc, e = .returned (.slice gp n gc) ∧ NilOr gp n gc ∧ Lies w' w'.heap.size gp n (fun i => .string (g i)) ∧
      ∀ W' : World, w'.heap.size ≤ W'.heap.size → (∀ k, w.heap.size ≤ k → k < w'.heap.size → W'.heap[k]? = w'.heap[k]?) → Lies W' W'.heap.size p n (fun i => .string (g i)) → Calls Tryd.prog 21 #[.slice gp n gc, .slice p n cap] W' fun e w3 => e = .returned (.bool true) ∧ w3 = W') ∧ Below w.heap.size w w' := by
  rcases hp with ⟨rfl, rfl, rfl⟩ | ⟨b, o, rfl⟩
  · refine (texts_nil w).mono ?_
    rintro e w' ⟨rfl, rfl⟩
    exact ⟨⟨none, 0, rfl, Or.inl ⟨rfl, rfl, rfl⟩, fun i hi => by omega, fun W' _ _ _ => keptTexts_nil W'⟩, Below.refl _ _⟩
  · refine (texts_any g b o n cap w hn hl).mono ?_
    rintro e w' ⟨⟨gb, c, rfl, ho⟩, hb⟩
    have hge : w.heap.size ≤ gb := (ho.lt gb rfl).1
    obtain ⟨hc, hgl, hcell⟩ := own_room ho
    refine ⟨⟨some ⟨gb, 0, none⟩, c, rfl, Or.inr ⟨gb, 0, rfl⟩, fun i hi => ⟨gb, 0, rfl, hgl, ?_⟩, fun W' hsz hW hl' => ?_⟩, hb⟩
    · rw [Nat.zero_add, hcell i (by omega), if_pos hi]
    · exact keptTexts_any g b o n cap gb c W' hn hc hl' (fun i hi => by
        rw [World.cell?_of_block (w := w') (a := ⟨gb, i, none⟩) (hW gb hge hgl), hcell i hi])

/-- A good block leaves some power. -/
theorem sumTo_high (x : Nat → Int) (k : Nat) (v : Int) (n : Nat) (h : n ≤ k) : sumTo (upd x k v) n = sumTo x n := by
  induction n with
  | zero => rfl
  | succ n ih =>
    simp only [sumTo]
    rw [ih (by omega), upd_other _ _ _ _ (by omega)]
theorem next_power {x : Nat → Int} {t : ByteArray} (h : 0 < sumTo x 8) (hn : (nextT x t).2 = true) : 0 < sumTo (nextT x t).1 8 := by
  unfold nextT nextR at hn ⊢
  split
  · rename_i e
    rw [if_pos e] at hn
    have h2 := (Bool.and_eq_true_iff.1 hn).1
    exact of_decide_eq_true h2
  · split
    · rw [sumTo_high _ _ _ _ (by omega)]
      exact h
    · split
      · rw [sumTo_high _ _ _ _ (by omega)]
        exact h
      · rw [sumTo_high _ _ _ _ (by omega)]
        exact h
theorem behindL_power : ∀ (l : List ByteArray) (x : Nat → Int), 0 < sumTo x 8 → (behindL x l).2 = true → 0 < sumTo (behindL x l).1 8
  | [], _, h, _ => h
  | t :: l, x, h, hn => by
    rw [behindL] at hn ⊢
    by_cases e : (nextT x t).2 = true
    · rw [if_pos e] at hn ⊢
      exact behindL_power l _ (next_power h e) hn
    · rw [if_neg e] at hn
      cases hn
theorem behind_power {x : Nat → Int} {b : ByteArray} (h : 0 < sumTo x 8) (hn : (behindR x b).2 = true) : 0 < sumTo (behindR x b).1 8 := by
  unfold behindR goOn at hn ⊢
  split
  · rename_i e
    rw [if_pos e] at hn
    exact behindL_power _ x h hn
  · rename_i e
    rw [if_neg e] at hn
    cases hn
theorem gen_power {g : Nat → Int} {n : Nat} (h : (genR g n).2 = true) : 0 < sumTo (genR g n).1 8 := by
  unfold genR at h ⊢
  split
  · rename_i e
    rw [if_pos e] at h
    have e8 : sumTo (regOf g n) 8 = sumTo g n := by
      have h1 := sumTo_regOf g n (8 - n)
      have h2 := e.1
      rw [show n + (8 - n) = 8 by omega] at h1
      exact h1
    rw [e8]
    exact of_decide_eq_true h
  · rename_i e
    rw [if_neg e] at h
    cases h

/-- What the two Accepts have answered, held together. -/
theorem both_accept {cx cy rb : Nat} {sg : Nat → List ByteArray} {x : Nat → Int} {h : Int} {block : ByteArray} {fr : Nat → ByteArray} {m : Nat} {es : List Addr} {w w1 w2 w3 : World} {e1 e2 : Ending}
    (h1 : AcceptP cx rb 8 sg x h block fr m es w e1 w1) (h2 : RAcceptP cy rb 8 sg x h block fr m w2 e2 w3) (ht : 0 < sumTo x 8) :
    (∃ (c : Nat) (b : Addr), e1 = .returned (.iface 188 (.pointer (some b))) ∧ es[c]? = some b ∧ e2 = .returned (.int .i64 ((c : Int) + 1)) ∧ Below w.heap.size w w1 ∧ Below w2.heap.size w2 w3) ∨
    (e1 = .returned .nilIface ∧ e2 = .returned (.int .i64 0) ∧ (behindR x block).2 = true ∧ h < 12 ∧ ClientAt w1 cx rb (behindR x block).1 (h + 1) ∧ ButP cx w w1 ∧ RClientAt w3 cy rb (behindR x block).1 (h + 1) ∧ ButP cy w2 w3) := by
  have hlow : (∀ i, i < m → decOk (fr i) = true) → CertOk x h block (fun i => decV (fr i)) m → h < 12 := fun hd hc => certOk_height hc (fun i hi => by have := decV_ok (hd i hi); omega) ht
  have nof : ∀ {a : ByteArray} , decOk a = false → decOk a = true → False := fun h1 h2 => by rw [h1] at h2; cases h2
  rcases h1 with ⟨c, b, rfl, hc, hb1, hcase⟩ | ⟨rfl, g1, d1, s1, k1, hcl, hbut⟩
  · rcases h2 with ⟨c2, rfl, hb2, hcase2⟩ | ⟨rfl, g2, d2, s2, k2, _, _⟩
    · refine Or.inl ⟨c, b, rfl, hc, ?_, hb1, hb2⟩
      rcases hcase with ⟨rfl, a1⟩ | ⟨rfl, a1, i, hi, a2⟩ | ⟨rfl, a1, a2, i, hi, a3⟩ | ⟨rfl, a1, a2, a3, a4⟩ <;> rcases hcase2 with ⟨rfl, b1⟩ | ⟨rfl, b1, j, hj, b2⟩ | ⟨rfl, b1, b2, j, hj, b3⟩ | ⟨rfl, b1, b2, b3, b4⟩ <;> first | rfl | (exfalso; rw [a1] at b1; cases b1; done) | (exfalso; have := a2 j hj; rw [b2] at this; cases this; done) | (exfalso; have := b2 i hi; rw [a2] at this; cases this; done) | (exfalso; have := a3 j hj; rw [b3] at this; cases this; done) | (exfalso; have := b3 i hi; rw [a3] at this; cases this; done)
    · exfalso
      rcases hcase with ⟨rfl, a1⟩ | ⟨rfl, a1, i, hi, a2⟩ | ⟨rfl, a1, a2, i, hi, a3⟩ | ⟨rfl, a1, a2, a3, a4⟩
      · rw [a1] at g2; cases g2
      · have := d2 i hi; rw [a2] at this; cases this
      · have := s2 i hi; rw [a3] at this; cases this
      · exact a4 k2
  · rcases h2 with ⟨c2, rfl, hb2, hcase2⟩ | ⟨rfl, g2, d2, s2, k2, hcl2, hbut2⟩
    · exfalso
      rcases hcase2 with ⟨rfl, b1⟩ | ⟨rfl, b1, j, hj, b2⟩ | ⟨rfl, b1, b2, j, hj, b3⟩ | ⟨rfl, b1, b2, b3, b4⟩
      · rw [b1] at g1; cases g1
      · have := d1 j hj; rw [b2] at this; cases this
      · have := s1 j hj; rw [b3] at this; cases this
      · exact b4 (hlow d1 k1) k1
    · exact Or.inr ⟨rfl, rfl, g1, hlow d1 k1, hcl, hbut, hcl2, hbut2⟩

/-- Accept returns, and turns its client's block alone. -/
theorem AcceptP.ret {cx rb n : Nat} {sg : Nat → List ByteArray} {x : Nat → Int} {h : Int} {block : ByteArray} {fr : Nat → ByteArray} {m : Nat} {es : List Addr} {w w1 : World} {e : Ending} (hA : AcceptP cx rb n sg x h block fr m es w e w1) (hc : ClientAt w cx rb x h) : ∃ ev y h', e = .returned ev ∧ ButP cx w w1 ∧ ClientAt w1 cx rb y h' := by
  rcases hA with ⟨c, b, rfl, _, hb1, _⟩ | ⟨rfl, _, _, _, _, hcl, hbut⟩
  · exact ⟨_, _, _, rfl, ButP.of_below hb1, hc.keep hb1⟩
  · exact ⟨_, _, _, rfl, hbut, hcl⟩
theorem RAcceptP.ret {cx rb n : Nat} {sg : Nat → List ByteArray} {x : Nat → Int} {h : Int} {block : ByteArray} {fr : Nat → ByteArray} {m : Nat} {w w1 : World} {e : Ending} (hA : RAcceptP cx rb n sg x h block fr m w e w1) (hc : RClientAt w cx rb x h) : ∃ c y h', e = .returned (.int .i64 c) ∧ ButP cx w w1 ∧ RClientAt w1 cx rb y h' := by
  rcases hA with ⟨c, rfl, hb1, _⟩ | ⟨rfl, _, _, _, _, hcl, hbut⟩
  · exact ⟨_, _, _, rfl, ButP.of_below hb1, hc.keep hb1⟩
  · exact ⟨_, _, _, rfl, hbut, hcl⟩

/-- Both Accepts together: what stands afterwards, and what which tells of the program's answer. -/
theorem TrI.accepted {base rb cx cy bk tb : Nat} {C : Array Value} {ks : Nat → Nat} {kv : Value} {F : Nat → Prop} {sg : Nat → List ByteArray} {x : Nat → Int} {h : Int} {B K : Nat} {v : Value} {L : List ByteArray} {block : ByteArray} {fr : Nat → ByteArray} {m : Nat} {es : List Addr} {w8 w9 w10 : World} {ev : Value} {c : Int} (hI : TrI base rb cx cy bk tb C ks kv F sg x h x h B K v L w8)
    (hA : AcceptP cx rb 8 sg x h block fr m es w8 (.returned ev) w9) (hR : RAcceptP cy rb 8 sg x h block fr m w9 (.returned (.int .i64 c)) w10) (hd : Dom x) (hp : 0 < sumTo x 8) (h0 : 0 ≤ h) (h12 : h ≤ 12) :
    ∃ x' h', TrI base rb cx cy bk tb C ks kv F sg x' h' x' h' B K v L w10 ∧ Dom x' ∧ 0 < sumTo x' 8 ∧ 0 ≤ h' ∧ h' ≤ 12 ∧ Below base w8 w10 ∧ (∀ k, k < w8.heap.size → k ≠ cx → k ≠ cy → w10.heap[k]? = w8.heap[k]?) ∧
      ∀ W, Sent es W → Calls Tryd.prog 8 #[ev] W fun e w' => e = .returned (.int .i64 c) ∧ Below W.heap.size W w' := by
  have hb8 : base ≤ w8.heap.size := Nat.le_trans hI.bnd.2 hI.bnd.1
  rcases both_accept hA hR hp with ⟨i, b, e1, hi, e2, b1, b2⟩ | ⟨e1, e2, hg, hl, c1, b1, c2, b2⟩
  · have e1' : ev = .iface 188 (.pointer (some b)) := by injection e1
    have e2' : c = (i : Int) + 1 := by injection e2 with e2; injection e2
    subst e1'
    subst e2'
    have b12 : Below w8.heap.size w8 w10 := b1.trans (b2.mono b1.size)
    exact ⟨x, h, (hI.below b1).below b2, hd, hp, h0, h12, b12.mono hb8, fun k hk _ _ => b12.block k hk, fun W hW => which_sent hW i b hi⟩
  · have e1' : ev = .nilIface := by injection e1
    have e2' : c = 0 := by injection e2 with e2; injection e2
    subst e1'
    subst e2'
    have hsz : w8.heap.size ≤ w9.heap.size := b1.size
    refine ⟨(behindR x block).1, h + 1, (hI.accept1 c1 b1).accept2 c2 b2, hd.behind block, behind_power hp hg, by omega, by omega, (b1.under hI.cl.low.1 hb8).trans (b2.under hI.cl.low.2 (by omega)), fun k hk n1 n2 => ?_, fun W hW => which_nil hW⟩
    rw [b2.block k (by omega) n2, b1.block k hk n1]

/-- No block of the ring or of the clients is one of a list of numbers. -/
theorem ClI.notInt {base rb cx cy base' n : Nat} {ks : Nat → Nat} {kv v : Value} {F : Nat → Prop} {sg : Nat → List ByteArray} {x1 x2 : Nat → Int} {h1 h2 : Int} {xs : List Value} {w : World} (h : ClI base rb cx cy ks kv F sg x1 h1 x2 h2 w) (hv : w.ownsRow base' 3 1 v n xs) (b : Nat) (hb : F b ∨ b = cx ∨ b = cy) : some b ≠ v.ownBlock ∧ b < w.heap.size := by
  have no : ∀ (c : Array Value) (t : TypeId), w.heap[b]? = some (.cells c t (0, 0)) → t ≠ 3 → some b ≠ v.ownBlock ∧ b < w.heap.size := fun c t hc ht => ⟨fun e => by
    obtain ⟨c', hc'⟩ := own_cells hv e.symm
    rw [hc] at hc'
    cases hc'
    exact ht rfl, heap_lt hc⟩
  rcases hb with hb | rfl | rfl
  · obtain ⟨c, t, e, ht⟩ := h.fty b hb
    rcases ht with rfl | rfl | rfl <;> exact no c _ e (by decide)
  · exact no _ _ h.one (by decide)
  · exact no _ _ h.two (by decide)

theorem BookI.head {A : Nat → Prop} {bk base0 K : Nat} {w : World} (h : BookI A bk base0 K w) : ∃ cb, w.heap[bk]? = some (.cells cb 44 (0, 0)) := by
  obtain ⟨lv, evs, h1, _⟩ := h
  exact ⟨_, h1⟩

set_option linter.unusedSimpArgs false in
theorem rot_list (L : List ByteArray) (r : Nat) (hr : r ≤ L.length) : (List.range (L.length - r)).map (fun i => Value.string (L.getD (r + i) ByteArray.empty)) ++ (List.range r).map (fun i => Value.string (L.getD i ByteArray.empty)) = (L.drop r ++ L.take r).map .string := by
  rw [List.map_append]
  congr 1
  · apply List.ext_getElem?
    intro i
    by_cases hi : i < L.length - r
    · have h1 : r + i < L.length := by omega
      simp [List.getElem?_map, List.getElem?_range hi, List.getElem?_drop, List.getElem?_eq_getElem h1]
    · have h1 : L.length - r ≤ i := by omega
      rw [List.getElem?_eq_none (by simpa using h1), List.getElem?_eq_none (by simpa using h1)]
  · apply List.ext_getElem?
    intro i
    by_cases hi : i < r
    · have h1 : i < L.length := by omega
      simp [List.getElem?_map, List.getElem?_range hi, List.getElem?_take, hi, List.getElem?_eq_getElem h1]
    · simp [List.getElem?_map, List.getElem?_take, hi]

end Go.Proofs.YtcfjhbcpjpgodaaDoor
