/- Proved here: what the law of Blame has in memory while it lays its frames: a ring, its keys, and a list of frames, all apart. -/
import Derived.Test.YtcfjhbcpjpgodaaDoorRingNew
import Derived.Laws.AppendOwnNone
namespace Go.Proofs.YtcfjhbcpjpgodaaDoor
open Go.RowKit

/-- A ring with eight keys, and a list of texts: their blocks are apart. -/
structure BlI (base rb : Nat) (ks : Nat → Nat) (kv : Value) (F : Nat → Prop) (sg : Nat → List ByteArray) (v : Value) (L : List ByteArray) (w : World) : Prop where
  ring : RingI F rb 8 sg w
  flt : ∀ k, F k → base ≤ k ∧ k < w.heap.size
  keys : w.ownsRow base 79 1 kv 8 (keyL ks 8)
  keyF : ∀ g, kv.ownBlock = some g → ¬ F g
  key : ∀ i, i < 8 → KeyAt w (ks i) rb i ∧ ¬ F (ks i)
  all : w.ownsRow base 9 1 v L.length (L.map .string)
  allF : ∀ g, v.ownBlock = some g → ¬ F g

theorem BlI.below {base rb : Nat} {ks : Nat → Nat} {kv : Value} {F : Nat → Prop} {sg : Nat → List ByteArray} {v : Value} {L : List ByteArray} {w w' : World} (h : BlI base rb ks kv F sg v L w) (hb : Below w.heap.size w w') : BlI base rb ks kv F sg v L w' where
  ring := h.ring.frame (fun k hk => hb.block k (h.flt k hk).2)
  flt := fun k hk => ⟨(h.flt k hk).1, Nat.lt_of_lt_of_le (h.flt k hk).2 hb.size⟩
  keys := own_blocks h.keys (fun g _ hg => hb.block g hg)
  keyF := h.keyF
  key := fun i hi => ⟨by have h1 := (h.key i hi).1; unfold KeyAt at h1 ⊢; rw [hb.block _ (row_lt0 h1)]; exact h1, (h.key i hi).2⟩
  all := own_blocks h.all (fun g _ hg => hb.block g hg)
  allF := h.allF

theorem BlI.signed {base rb : Nat} {ks : Nat → Nat} {kv : Value} {F : Nat → Prop} {sg sg' : Nat → List ByteArray} {v : Value} {L : List ByteArray} {w w' : World} (h : BlI base rb ks kv F sg v L w) (hw : base ≤ w.heap.size) (hs : SignP F rb 8 sg' w w') : (∃ F', BlI base rb ks kv F' sg' v L w') ∧ Below base w w' := by
  obtain ⟨F', hr, hf, hlt, hsame⟩ := hs
  have hnew : ∀ k, k < w.heap.size → ¬ F k → ¬ F' k := fun k hk hn h' => by
    rcases hf k h' with h1 | h1
    · exact hn h1
    · omega
  refine ⟨⟨F', ?_⟩, ⟨hsame.os, hsame.tape, hsame.output, hsame.size, fun k hk => hsame.block k (by omega) (fun hF => by have := (h.flt k hF).1; omega)⟩⟩
  exact {
    ring := hr
    flt := fun k hk => ⟨by rcases hf k hk with h1 | h1; exact (h.flt k h1).1; omega, hlt k hk⟩
    keys := own_blocks h.keys (fun g hg hlt => hsame.block g hlt (h.keyF g hg))
    keyF := fun g hg => hnew g (h.keys.lt g hg).2 (h.keyF g hg)
    key := fun i hi => by
      obtain ⟨h1, h2⟩ := h.key i hi
      refine ⟨?_, hnew _ (row_lt0 h1) h2⟩
      unfold KeyAt at h1 ⊢
      rw [hsame.block _ (row_lt0 h1) h2]
      exact h1
    all := own_blocks h.all (fun g hg hlt => hsame.block g hlt (h.allF g hg))
    allF := fun g hg => hnew g (h.all.lt g hg).2 (h.allF g hg) }

theorem BlI.more {base rb : Nat} {ks : Nat → Nat} {kv : Value} {F : Nat → Prop} {sg : Nat → List ByteArray} {v v' : Value} {L L' : List ByteArray} {w w' : World} (h : BlI base rb ks kv F sg v L w)
    (hown : w'.ownsRow base 9 1 v' L'.length (L'.map .string)) (hg : w.grownBy w' v.ownBlock) (hat : v'.ownBlock = v.ownBlock ∨ v'.ownBlock = some w.heap.size) : BlI base rb ks kv F sg v' L' w' where
  ring := h.ring.frame (fun k hk => hg.block k (h.flt k hk).2 (fun e => h.allF k e.symm hk))
  flt := fun k hk => ⟨(h.flt k hk).1, Nat.lt_of_lt_of_le (h.flt k hk).2 hg.size⟩
  keys := own_blocks h.keys (fun g e hlt => hg.block g hlt (fun e2 => own_apart h.keys h.all (by decide) g e e2.symm))
  keyF := h.keyF
  key := fun i hi => by
    obtain ⟨h1, h2⟩ := h.key i hi
    refine ⟨?_, h2⟩
    unfold KeyAt at h1 ⊢
    rw [hg.block _ (row_lt0 h1) (row_apart0 h.all h1 (by decide))]
    exact h1
  all := hown
  allF := fun g e hF => by
    rcases hat with h1 | h1
    · exact h.allF g (h1.symm.trans e) hF
    · have e2 := h1.symm.trans e
      cases e2
      have := (h.flt _ hF).2
      omega

/-- What a new ring begins with. -/
theorem BlI.start {ks : Nat → Nat} {ov kv : Value} {w w' : World} (hr : RingI (fun k => k = w.heap.size ∨ some k = ov.ownBlock) w.heap.size 8 (fun _ => []) w') (ho : w'.ownsRow (w.heap.size + 1) 39 1 ov 8 (List.replicate 8 (.slice none 0 0)))
    (hk : w'.ownsRow (w.heap.size + 1) 79 1 kv 8 (keyL ks 8)) (hks : ∀ i, i < 8 → w.heap.size < ks i ∧ KeyAt w' (ks i) w.heap.size i) (hw : w.heap.size < w'.heap.size) :
    BlI w.heap.size w.heap.size ks kv (fun k => k = w.heap.size ∨ some k = ov.ownBlock) (fun _ => []) (.slice none 0 0) [] w' where
  ring := hr
  flt := fun k h => by
    rcases h with h | h
    · omega
    · have := ho.lt k h.symm
      omega
  keys := own_base hk (by omega)
  keyF := fun g e h => by
    rcases h with h | h
    · have := (hk.lt g e).1
      omega
    · exact own_apart hk ho (by decide) g e h.symm
  key := fun i hi => ⟨(hks i hi).2, fun h => by
    rcases h with h | h
    · have := (hks i hi).1
      omega
    · exact row_apart0 ho (hks i hi).2 (by decide) h⟩
  all := World.ownsRow_nil _ _ _ _
  allF := fun g e => by cases e

section
variable {P : Program} (w : World)
/-- append in a list of operations, with where the new row lies. -/
theorem wpList_append_at {ops : Array Oper} {rest : List Oper} {o : Oper} {a : Act} {Q : Exit → Act → World → Prop} (hgd : o.guard = none) (s x : Operand) (t : TypeId)
    (ho : o.op = .call { callee := .builtin .append, args := #[s, x], argTypes := #[t, t] })
    (base : Nat) (e : TypeId) (i : TypeInfo) (z : Value) (size bytes : Nat) (ht : P.underlying t = some (.slice e)) (hi : P.info? e = some i) (hz : i.zero = some z)
    (hsize : i.size = size) (hby : i.bytes = bytes) (hzs : z.cells.size = size) (hsz : 0 < size)
    (v : Value) (n : Nat) (xs : List Value) (hs : a.eval s = v) (hown : w.ownsRow base e size v n xs)
    (ad : Addr) (m c : Nat) (news : List Value) (hx : a.eval x = .slice (some ad) m c) (hl : news.length = m * size) (hnews : ∀ j u, news[j]? = some u → w.cell? (ad.add j) = some u) (h1 : ∀ u ∈ news, u.oneCell' = true)
    (h63 : n + m ≤ maxLen) (hbytes : (n + m) * bytes ≤ 140737488355328) (hbase : base ≤ w.heap.size)
    (h : ∀ v' w', w'.ownsRow base e size v' (n + m) (xs ++ news) → w.grownBy w' v.ownBlock → (v'.ownBlock = v.ownBlock ∨ v'.ownBlock = some w.heap.size) → wpList P ops Q rest (a.put o.dst v') w') : wpList P ops Q (o :: rest) a w :=
  wpList_plain hgd fun _ hK => wp_append_at w s x t ho base e i z size bytes ht hi hz hsize hby hzs hsz v n xs hs hown ad m c news hx hl hnews h1 h63 hbytes hbase fun v' w' h2 h3 h4 => hK _ _ (h v' w' h2 h3 h4)

/-- A list of texts, nil or not, appended. -/
theorem wpList_append_texts {ops : Array Oper} {rest : List Oper} {o : Oper} {a : Act} {Q : Exit → Act → World → Prop} (hgd : o.guard = none) (s x : Operand) (t : TypeId)
    (ho : o.op = .call { callee := .builtin .append, args := #[s, x], argTypes := #[t, t] })
    (base : Nat) (e : TypeId) (i : TypeInfo) (z : Value) (bytes : Nat) (ht : P.underlying t = some (.slice e)) (hi : P.info? e = some i) (hz : i.zero = some z)
    (hsize : i.size = 1) (hby : i.bytes = bytes) (hzs : z.cells.size = 1)
    (v : Value) (n : Nat) (xs : List Value) (hs : a.eval s = v) (hown : w.ownsRow base e 1 v n xs)
    (p : Option Addr) (m c : Nat) (fr : Nat → ByteArray) (hx : a.eval x = .slice p m c) (hp : NilOr p m c) (hl : Lies w w.heap.size p m (fun i => .string (fr i)))
    (h63 : n + m ≤ maxLen) (hbytes : (n + m) * bytes ≤ 140737488355328) (hbase : base ≤ w.heap.size)
    (h : ∀ v' w', w'.ownsRow base e 1 v' (n + m) (xs ++ (List.range m).map fun i => .string (fr i)) → w.grownBy w' v.ownBlock → (v'.ownBlock = v.ownBlock ∨ v'.ownBlock = some w.heap.size) → wpList P ops Q rest (a.put o.dst v') w') : wpList P ops Q (o :: rest) a w := by
  rcases hp with ⟨rfl, rfl, rfl⟩ | ⟨b, off, rfl⟩
  · refine wpList_plain hgd fun K hK => ?_
    have hr := run_append_owned_none (P := P) w base t o.type e i 1 ht hi v n xs hown
    unfold Oper.wp execOp
    simp only [ho, resolve, invoke, builtin, Sem.run_bind, Sem.run_pure, Result.andThen_ok, List.map_toArray, List.map_cons, List.map_nil, hs, hx, hr]
    exact hK _ _ (h v w (by simpa using hown) (World.grownBy.refl _ _) (Or.inl rfl))
  · refine wpList_append_at w hgd s x t ho base e i z 1 bytes ht hi hz hsize hby hzs (by decide) v n xs hs hown ⟨b, off, none⟩ m c ((List.range m).map fun i => .string (fr i)) hx (by simp) (fun j u hj => ?_) (fun u hu => ?_) h63 hbytes hbase h
    · have hjm : j < m := by have := (List.getElem?_eq_some_iff.1 hj).1; simpa using this
      obtain ⟨b', o', e', _, hc⟩ := hl j hjm
      cases e'
      have e2 : ((List.range m).map fun i => Value.string (fr i))[j]? = some (.string (fr j)) := by simp [hjm]
      rw [e2] at hj
      cases hj
      rw [addr_add]
      exact hc
    · simp only [List.mem_map] at hu
      obtain ⟨i, _, rfl⟩ := hu
      rfl
end

end Go.Proofs.YtcfjhbcpjpgodaaDoor
