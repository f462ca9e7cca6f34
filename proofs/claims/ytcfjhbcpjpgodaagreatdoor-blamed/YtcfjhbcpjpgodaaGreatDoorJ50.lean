/- Proved here: what the law of blame holds in memory: a ring with its keys, the powers, two lists of frames, a list of ids; what signing and appending leave of it. · Proved here: what a client makes of a certificate of the law of blame. · Proved here: the law of blame: two certificates of one round for two blocks. -/
import Derived.Test.YtcfjhbcpjpgodaaGreatDoorBlamedPure
import Derived.Test.YtcfjhbcpjpgodaaGreatDoorJ41
import Derived.Test.YtcfjhbcpjpgodaaGreatDoorJ42
import Derived.Test.YtcfjhbcpjpgodaaGreatDoorJ47
import Derived.Test.YtcfjhbcpjpgodaaGreatDoorJ49
namespace Go.Proofs.YtcfjhbcpjpgodaaGreatDoor
open Go.RowKit

structure BdI (B0 rb n : Nat) (ks : Nat → Nat) (kv gv : Value) (g : Nat → Int) (F : Nat → Prop) (sg : Nat → List ByteArray) (va vb vd : Value) (la lb : List ByteArray) (ld : List Nat) (w : World) : Prop where
  ring : RingI F rb n sg w
  fl : ∀ k, F k → B0 ≤ k ∧ k < w.heap.size
  keys : w.ownsRow B0 45 1 kv n (keyL ks n)
  key : ∀ i, i < n → B0 ≤ ks i ∧ KeyAt w (ks i) rb i
  gen : w.ownsRow B0 3 1 gv n ((List.range n).map fun i => .int .i64 (g i))
  ra : w.ownsRow B0 9 1 va la.length (la.map .string)
  rr : w.ownsRow B0 9 1 vb lb.length (lb.map .string)
  rd : w.ownsRow B0 3 1 vd ld.length (idL ld)
  nk : ∀ q, kv.ownBlock = some q → ¬ F q
  nks : ∀ i, i < n → ¬ F (ks i)
  ng : ∀ q, gv.ownBlock = some q → ¬ F q ∧ vd.ownBlock ≠ some q
  na : ∀ q, va.ownBlock = some q → ¬ F q ∧ vb.ownBlock ≠ some q
  nb : ∀ q, vb.ownBlock = some q → ¬ F q
  nd : ∀ q, vd.ownBlock = some q → ¬ F q
  b0 : B0 ≤ w.heap.size

section
variable {B0 rb n : Nat} {ks : Nat → Nat} {kv gv : Value} {g : Nat → Int} {F : Nat → Prop} {sg : Nat → List ByteArray} {va vb vd : Value} {la lb : List ByteArray} {ld : List Nat} {w w' : World}

theorem BdI.below (h : BdI B0 rb n ks kv gv g F sg va vb vd la lb ld w) (hb : Below w.heap.size w w') : BdI B0 rb n ks kv gv g F sg va vb vd la lb ld w' where
  ring := h.ring.frame fun k hk => hb.block k (h.fl k hk).2
  fl := fun k hk => ⟨(h.fl k hk).1, Nat.lt_of_lt_of_le (h.fl k hk).2 hb.size⟩
  keys := own_keep h.keys hb
  key := fun i hi => ⟨(h.key i hi).1, (h.key i hi).2.keep (hb.block _ (h.key i hi).2.lt)⟩
  gen := own_keep h.gen hb
  ra := own_keep h.ra hb
  rr := own_keep h.rr hb
  rd := own_keep h.rd hb
  nk := h.nk
  nks := h.nks
  ng := h.ng
  na := h.na
  nb := h.nb
  nd := h.nd
  b0 := Nat.le_trans h.b0 hb.size

theorem BdI.sign {sg' : Nat → List ByteArray} (h : BdI B0 rb n ks kv gv g F sg va vb vd la lb ld w) (hp : SignP F rb n sg' w w') : ∃ F', BdI B0 rb n ks kv gv g F' sg' va vb vd la lb ld w' ∧ SameBut F w w' := by
  obtain ⟨F', hr, hF, hl, hs⟩ := hp
  have no : ∀ q, q < w.heap.size → ¬ F q → ¬ F' q := fun q hq hn hf => by
    rcases hF q hf with h1 | h1
    · exact hn h1
    · omega
  refine ⟨F', ⟨hr, fun k hk => ⟨?_, hl k hk⟩, own_blocks h.keys fun q e hq => hs.block q hq (h.nk q e), fun i hi => ⟨(h.key i hi).1, (h.key i hi).2.keep (hs.block _ (h.key i hi).2.lt (h.nks i hi))⟩, own_blocks h.gen fun q e hq => hs.block q hq (h.ng q e).1, own_blocks h.ra fun q e hq => hs.block q hq (h.na q e).1, own_blocks h.rr fun q e hq => hs.block q hq (h.nb q e), own_blocks h.rd fun q e hq => hs.block q hq (h.nd q e),
    fun q e => no q (h.keys.lt q e).2 (h.nk q e), fun i hi => no _ (h.key i hi).2.lt (h.nks i hi), fun q e => ⟨no q (h.gen.lt q e).2 (h.ng q e).1, (h.ng q e).2⟩, fun q e => ⟨no q (h.ra.lt q e).2 (h.na q e).1, (h.na q e).2⟩, fun q e => no q (h.rr.lt q e).2 (h.nb q e), fun q e => no q (h.rd.lt q e).2 (h.nd q e), Nat.le_trans h.b0 hs.size⟩, hs⟩
  rcases hF k hk with h1 | h1
  · exact (h.fl k h1).1
  · exact Nat.le_trans h.b0 h1

/-- One row has grown: it lies where it lay, or in new memory. -/
theorem grow_same {o : Option Nat} (h : w.grownBy w' o) : SameBut (fun k => some k = o) w w' := ⟨h.os, h.tape, h.output, h.size, fun k hk hn => h.block k hk hn⟩

theorem BdI.appA {va' : Value} {la' : List ByteArray} (h : BdI B0 rb n ks kv gv g F sg va vb vd la lb ld w) (ho : w'.ownsRow B0 9 1 va' la'.length (la'.map .string)) (hat : va'.ownBlock = va.ownBlock ∨ va'.ownBlock = some w.heap.size) (hs : SameBut (fun k => some k = va.ownBlock) w w') : BdI B0 rb n ks kv gv g F sg va' vb vd la' lb ld w' := by
  refine ⟨h.ring.frame fun k hk => hs.block k (h.fl k hk).2 (fun e => (h.na k e.symm).1 hk), fun k hk => ⟨(h.fl k hk).1, Nat.lt_of_lt_of_le (h.fl k hk).2 hs.size⟩, own_blocks h.keys fun q e hq => hs.block q hq (fun x => own_tt h.keys h.ra (by decide) q e x.symm), fun i hi => ⟨(h.key i hi).1, (h.key i hi).2.keep (hs.block _ (h.key i hi).2.lt (fun x => own_ne h.ra (h.key i hi).2 (by decide) x.symm))⟩, own_blocks h.gen fun q e hq => hs.block q hq (fun x => own_tt h.gen h.ra (by decide) q e x.symm), ho, own_blocks h.rr fun q e hq => hs.block q hq (fun x => (h.na q x.symm).2 e), own_blocks h.rd fun q e hq => hs.block q hq (fun x => own_tt h.rd h.ra (by decide) q e x.symm), h.nk, h.nks, h.ng, fun q e => ?_, h.nb, h.nd, Nat.le_trans h.b0 hs.size⟩
  rcases hat with h1 | h1
  · exact h.na q (h1.symm.trans e)
  · have e2 : w.heap.size = q := Option.some.inj (h1.symm.trans e)
    exact ⟨fun hf => by have := (h.fl q hf).2; omega, fun hb => by have := (h.rr.lt q hb).2; omega⟩

theorem BdI.appB {vb' : Value} {lb' : List ByteArray} (h : BdI B0 rb n ks kv gv g F sg va vb vd la lb ld w) (ho : w'.ownsRow B0 9 1 vb' lb'.length (lb'.map .string)) (hat : vb'.ownBlock = vb.ownBlock ∨ vb'.ownBlock = some w.heap.size) (hs : SameBut (fun k => some k = vb.ownBlock) w w') : BdI B0 rb n ks kv gv g F sg va vb' vd la lb' ld w' := by
  refine ⟨h.ring.frame fun k hk => hs.block k (h.fl k hk).2 (fun e => h.nb k e.symm hk), fun k hk => ⟨(h.fl k hk).1, Nat.lt_of_lt_of_le (h.fl k hk).2 hs.size⟩, own_blocks h.keys fun q e hq => hs.block q hq (fun x => own_tt h.keys h.rr (by decide) q e x.symm), fun i hi => ⟨(h.key i hi).1, (h.key i hi).2.keep (hs.block _ (h.key i hi).2.lt (fun x => own_ne h.rr (h.key i hi).2 (by decide) x.symm))⟩, own_blocks h.gen fun q e hq => hs.block q hq (fun x => own_tt h.gen h.rr (by decide) q e x.symm), own_blocks h.ra fun q e hq => hs.block q hq (fun x => (h.na q e).2 x.symm), ho, own_blocks h.rd fun q e hq => hs.block q hq (fun x => own_tt h.rd h.rr (by decide) q e x.symm), h.nk, h.nks, h.ng, fun q e => ⟨(h.na q e).1, fun e2 => ?_⟩, fun q e => ?_, h.nd, Nat.le_trans h.b0 hs.size⟩
  · rcases hat with h1 | h1
    · exact (h.na q e).2 (h1.symm.trans e2)
    · have e3 : w.heap.size = q := Option.some.inj (h1.symm.trans e2)
      have := (h.ra.lt q e).2
      omega
  · rcases hat with h1 | h1
    · exact h.nb q (h1.symm.trans e)
    · have e2 : w.heap.size = q := Option.some.inj (h1.symm.trans e)
      exact fun hf => by have := (h.fl q hf).2; omega

theorem BdI.appD {vd' : Value} {ld' : List Nat} (h : BdI B0 rb n ks kv gv g F sg va vb vd la lb ld w) (ho : w'.ownsRow B0 3 1 vd' ld'.length (idL ld')) (hat : vd'.ownBlock = vd.ownBlock ∨ vd'.ownBlock = some w.heap.size) (hs : SameBut (fun k => some k = vd.ownBlock) w w') : BdI B0 rb n ks kv gv g F sg va vb vd' la lb ld' w' := by
  refine ⟨h.ring.frame fun k hk => hs.block k (h.fl k hk).2 (fun e => h.nd k e.symm hk), fun k hk => ⟨(h.fl k hk).1, Nat.lt_of_lt_of_le (h.fl k hk).2 hs.size⟩, own_blocks h.keys fun q e hq => hs.block q hq (fun x => own_tt h.keys h.rd (by decide) q e x.symm), fun i hi => ⟨(h.key i hi).1, (h.key i hi).2.keep (hs.block _ (h.key i hi).2.lt (fun x => own_ne h.rd (h.key i hi).2 (by decide) x.symm))⟩, own_blocks h.gen fun q e hq => hs.block q hq (fun x => (h.ng q e).2 x.symm), own_blocks h.ra fun q e hq => hs.block q hq (fun x => own_tt h.ra h.rd (by decide) q e x.symm), own_blocks h.rr fun q e hq => hs.block q hq (fun x => own_tt h.rr h.rd (by decide) q e x.symm), ho, h.nk, h.nks, fun q e => ⟨(h.ng q e).1, fun e2 => ?_⟩, h.na, h.nb, fun q e => ?_, Nat.le_trans h.b0 hs.size⟩
  · rcases hat with h1 | h1
    · exact (h.ng q e).2 (h1.symm.trans e2)
    · have e3 : w.heap.size = q := Option.some.inj (h1.symm.trans e2)
      have := (h.gen.lt q e).2
      omega
  · rcases hat with h1 | h1
    · exact h.nd q (h1.symm.trans e)
    · have e2 : w.heap.size = q := Option.some.inj (h1.symm.trans e)
      exact fun hf => by have := (h.fl q hf).2; omega
end

theorem signR_mem {sg : Nat → List ByteArray} {k i : Nat} {u t : ByteArray} (h : t ∈ sg i) : t ∈ signR sg k u i := by
  unfold signR
  split
  · rename_i h1
    rw [← h1.1]
    exact List.mem_append_left _ h
  · exact h
theorem signR_new {sg : Nat → List ByteArray} {k : Nat} {u : ByteArray} : u ∈ signR sg k u k := by
  unfold signR
  split
  · exact List.mem_append_right _ (List.mem_singleton.2 rfl)
  · rename_i h1
    have h2 : ¬ hasT (sg k) u = false := fun e => h1 ⟨rfl, e⟩
    exact (hasT_iff _ _).1 (by simpa using h2)
theorem signR_len {sg : Nat → List ByteArray} {k i : Nat} {u : ByteArray} : (signR sg k u i).length ≤ (sg i).length + 1 := by
  unfold signR
  split
  · rename_i h1
    rw [h1.1, List.length_append]
    exact Nat.le_refl _
  · omega

/-- What the ring has of the first j ids. -/
structure SgI (r : Nat) (one two : Int) (j : Nat) (sg : Nat → List ByteArray) : Prop where
  a : ∀ i, i < j → onB one i = true → vfr jaT r i ∈ sg i
  b : ∀ i, i < j → onB two i = true → vfr jbT r i ∈ sg i
  l : ∀ i, (sg i).length ≤ 2 * j

end Go.Proofs.YtcfjhbcpjpgodaaGreatDoor
namespace Go.Proofs.YtcfjhbcpjpgodaaGreatDoor
open Go.RowKit

theorem BdI.but {B0 rb n cb : Nat} {ks : Nat → Nat} {kv gv : Value} {g : Nat → Int} {F : Nat → Prop} {sg : Nat → List ByteArray} {va vb vd : Value} {la lb : List ByteArray} {ld : List Nat} {C : Array Value} {w w' : World} (h : BdI B0 rb n ks kv gv g F sg va vb vd la lb ld w) (hc : w.heap[cb]? = some (.cells C 170 (0, 0))) (hF : ¬ F cb) (hs : ButP cb w w') : BdI B0 rb n ks kv gv g F sg va vb vd la lb ld w' := by
  refine ⟨h.ring.frame fun k hk => hs.block k (h.fl k hk).2 (fun e => hF (e ▸ hk)), fun k hk => ⟨(h.fl k hk).1, Nat.lt_of_lt_of_le (h.fl k hk).2 hs.size⟩, own_blocks h.keys fun q e hq => hs.block q hq (fun x => own_ne h.keys hc (by decide) (x ▸ e)), fun i hi => ⟨(h.key i hi).1, (h.key i hi).2.keep (hs.block _ (h.key i hi).2.lt (fun x => ?_))⟩, own_blocks h.gen fun q e hq => hs.block q hq (fun x => own_ne h.gen hc (by decide) (x ▸ e)), own_blocks h.ra fun q e hq => hs.block q hq (fun x => own_ne h.ra hc (by decide) (x ▸ e)), own_blocks h.rr fun q e hq => hs.block q hq (fun x => own_ne h.rr hc (by decide) (x ▸ e)), own_blocks h.rd fun q e hq => hs.block q hq (fun x => own_ne h.rd hc (by decide) (x ▸ e)), h.nk, h.nks, h.ng, h.na, h.nb, h.nd, Nat.le_trans h.b0 hs.size⟩
  have h1 := (h.key i hi).2
  unfold KeyAt at h1
  rw [x, hc] at h1
  exact absurd h1 (by intro e; injection e with e; injection e with e1 e2 e3; exact absurd e2 (by decide))

theorem acceptK (F : Nat → Prop) (cb rb n : Nat) (sg : Nat → List ByteArray) (g : Nat → Int) (z : Int) (t : ByteArray) (rr : Nat) (p : Option Addr) (cap : Nat) (es : List Addr) (a1 a2 a9 a11 : Addr) (mx : Int) (w : World) (ht : t.size ≤ 24) (hrr : rr ≤ 20) (hn : n ≤ 8) (hgb : ∀ i, i < n → 1 ≤ g i ∧ g i ≤ 3) (hbeh : (behindR (regOf g n) t).2 = true) (hsig : ∀ i, i < n → onB z i = true → vfr t rr i ∈ sg i)
    (hc : ClientAt w cb rb (regOf g n) 0) (hr : RingI F rb n sg w) (hlt : ∀ k, F k → k < w.heap.size) (hS : SentF es w) (he1 : es[1]? = some a1) (he2 : es[2]? = some a2) (he9 : es[9]? = some a9) (he11 : es[11]? = some a11) (hT : TypAt w) (hmx : w.cell? ⟨13, 0, none⟩ = some (.int .i64 mx))
    (hl : Lies w w.heap.size p (idsK z n).length (fun i => .string ((lstK t rr z n).getD i ByteArray.empty))) :
    Calls Tryz.prog 46 #[.pointer (some ⟨cb, 0, none⟩), .string t, .slice p (idsK z n).length cap] w fun e w' => e = .returned (if 2 * sumTo g n < 3 * weighF g z n then .nilIface else .iface 294 (.pointer (some a9))) ∧ ButP cb w w' := by
  have hx : Dom (regOf g n) := fun i => by
    unfold regOf
    split
    · rename_i h1; have := hgb i h1; omega
    · omega
  have hlen := idsK_len z n
  have hok : ∀ i, i < (idsK z n).length → decOk ((lstK t rr z n).getD i ByteArray.empty) = true ∧ signedB sg n (decV ((lstK t rr z n).getD i ByteArray.empty)).f ((lstK t rr z n).getD i ByteArray.empty) = true := fun i hi => by
    obtain ⟨k, h1, h2, h3, h4⟩ := lstK_at (t := t) (r := rr) hi
    rw [h4]
    have hd := vfr_dec ht hrr (show k < 8 by omega)
    refine ⟨hd.1, ?_⟩
    rw [hd.2]
    exact who_at h1 (hsig k h1 h2)
  have hcert : CertOk (regOf g n) 0 t (fun k => decV ((lstK t rr z n).getD k ByteArray.empty)) (idsK z n).length ↔ 2 * sumTo g n < 3 * weighF g z n := by
    rw [certK ht hrr hn, more_who hn, decide_eq_true_eq]
  refine (accept_any F cb rb n sg (regOf g n) 0 t (fun i => (lstK t rr z n).getD i ByteArray.empty) p (idsK z n).length cap es a1 a2 a9 a11 mx w hx (by omega) (by omega) (by omega) hc hr hlt hS he1 he2 he9 he11 hT hmx hl (by omega)).mono ?_
  rintro e w' (⟨c, b, rfl, hcb, hb, hw⟩ | ⟨rfl, _, _, _, hck, _, hbut⟩)
  · rcases hw with ⟨_, h1⟩ | ⟨_, _, i, hi, h1⟩ | ⟨_, _, _, i, hi, h1⟩ | ⟨rfl, _, _, _, h1⟩
    · rw [hbeh] at h1; cases h1
    · rw [(hok i hi).1] at h1; cases h1
    · rw [(hok i hi).2] at h1; cases h1
    · rw [hcert] at h1
      rw [if_neg h1]
      have e1 : a9 = b := Option.some.inj (he9.symm.trans hcb)
      rw [e1]
      exact ⟨rfl, ButP.of_below hb⟩
  · rw [hcert] at hck
    rw [if_pos hck]
    exact ⟨rfl, hbut⟩

theorem genK_yes {g : Nat → Int} {n : Nat} (hn : n ≤ 8) (hn1 : 1 ≤ n) (hgb : ∀ i, i < n → 1 ≤ g i ∧ g i ≤ 3) : genR g n = (regOf g n, true) := by
  rw [genR_good g n hn (fun i hi => by have := hgb i hi; omega)]
  have h : 0 < sumTo g n := by
    obtain ⟨k, rfl⟩ : ∃ k, n = k + 1 := ⟨n - 1, by omega⟩
    have h1 := sumTo_bound g k (fun i hi => by have := hgb i (by omega); omega)
    have h2 := hgb k (by omega)
    unfold sumTo
    omega
  rw [decide_eq_true h]

end Go.Proofs.YtcfjhbcpjpgodaaGreatDoor
namespace Go.Proofs.YtcfjhbcpjpgodaaGreatDoor
open Go.RowKit

theorem same_below {F : Nat → Prop} {B : Nat} {w w' : World} (hB : B ≤ w.heap.size) (hF : ∀ k, F k → B ≤ k) (h : SameBut F w w') : Below B w w' := ⟨h.os, h.tape, h.output, h.size, fun k hk => h.block k (by omega) (fun x => by have := hF k x; omega)⟩

theorem keyK {B0 rb n kg kc : Nat} {ks : Nat → Nat} {gv : Value} {g : Nat → Int} {F : Nat → Prop} {sg : Nat → List ByteArray} {va vb vd : Value} {la lb : List ByteArray} {ld : List Nat} {w : World} {j : Nat} (h : BdI B0 rb n ks (.slice (some ⟨kg, 0, none⟩) n kc) gv g F sg va vb vd la lb ld w) (hj : j < n) : w.cell? ⟨kg, j, none⟩ = some (.pointer (some ⟨ks j, 0, none⟩)) := by
  obtain ⟨b, e, _, _, hc⟩ := key_cellN (f := j) h.keys hj
  cases e
  exact hc
theorem genK {B0 rb n gb gc : Nat} {ks : Nat → Nat} {kv : Value} {g : Nat → Int} {F : Nat → Prop} {sg : Nat → List ByteArray} {va vb vd : Value} {la lb : List ByteArray} {ld : List Nat} {w : World} {j : Nat} (h : BdI B0 rb n ks kv (.slice (some ⟨gb, 0, none⟩) n gc) g F sg va vb vd la lb ld w) (hj : j < n) : w.cell? ⟨gb, j, none⟩ = some (.int .i64 (g j)) := by
  obtain ⟨p, c, e, hl⟩ := own_numsK h.gen
  cases e
  obtain ⟨b, o, e, _, hc⟩ := hl j hj
  cases e
  rw [Nat.zero_add] at hc
  exact hc
theorem own_pt {w : World} {base e size n c : Nat} {p : Option Addr} {xs : List Value} (h : w.ownsRow base e size (.slice p n c) n xs) (hn : 0 < n) : ∃ b, p = some ⟨b, 0, none⟩ := by
  rcases h.2 with ⟨e, h0⟩ | ⟨b, cap, cur, e, _⟩
  · omega
  · cases e
    exact ⟨b, rfl⟩
theorem own_nilor {w : World} {base e n c : Nat} {p : Option Addr} {xs : List Value} (h : w.ownsRow base e 1 (.slice p n c) n xs) : NilOr p n c := by
  rcases h.2 with ⟨e, h0⟩ | ⟨b, cap, cur, e, _⟩
  · cases e
    exact Or.inl ⟨rfl, rfl, rfl⟩
  · cases e
    exact Or.inr ⟨b, 0, rfl⟩
theorem own_idL {w : World} {base : Nat} {v : Value} {l : List Nat} (h : w.ownsRow base 3 1 v l.length (idL l)) : ∃ p c, v = .slice p l.length c ∧ Lies w w.heap.size p l.length (fun i => .int .i64 ((l.getD i 0 : Nat) : Int)) := by
  rcases h.2 with ⟨rfl, hn⟩ | ⟨gb, cap, cur, rfl, hb, hg, hnc, hcm, hcs, ht⟩
  · exact ⟨none, 0, by rw [hn], fun i hi => by omega⟩
  · refine ⟨_, cap, rfl, fun i hi => ⟨gb, 0, rfl, row_lt0 hg, ?_⟩⟩
    rw [cell_of_row w gb _ _ _ _ hg, Nat.zero_add]
    have e1 : (cur.toList.take (l.length * 1))[i]? = (idL l)[i]? := by rw [ht]
    rw [List.getElem?_take, if_pos (by omega)] at e1
    rw [← Array.getElem?_toList, e1]
    simp [idL, hi, List.getD_eq_getElem?_getD]
theorem liesK {B0 rb n gb gc : Nat} {ks : Nat → Nat} {kv : Value} {g : Nat → Int} {F : Nat → Prop} {sg : Nat → List ByteArray} {va vb vd : Value} {la lb : List ByteArray} {ld : List Nat} {w : World} (h : BdI B0 rb n ks kv (.slice (some ⟨gb, 0, none⟩) n gc) g F sg va vb vd la lb ld w) : Lies w w.heap.size (some ⟨gb, 0, none⟩) n (fun i => .int .i64 (g i)) := by
  obtain ⟨p, c, e, hl⟩ := own_numsK h.gen
  cases e
  exact hl
theorem liesA {B0 rb n m k pc : Nat} {ks : Nat → Nat} {kv gv : Value} {g : Nat → Int} {F : Nat → Prop} {sg : Nat → List ByteArray} {p : Option Addr} {vb vd : Value} {la lb : List ByteArray} {ld : List Nat} {w : World} (hm : m = la.length) (h : BdI B0 rb n ks kv gv g F sg (.slice p k pc) vb vd la lb ld w) : Lies w w.heap.size p m (fun i => .string (la.getD i ByteArray.empty)) := by
  obtain ⟨p', c', e, _, hl'⟩ := own_lies h.ra
  cases e
  rw [hm]
  exact hl'
theorem liesB {B0 rb n m k pc : Nat} {ks : Nat → Nat} {kv gv : Value} {g : Nat → Int} {F : Nat → Prop} {sg : Nat → List ByteArray} {p : Option Addr} {va vd : Value} {la lb : List ByteArray} {ld : List Nat} {w : World} (hm : m = lb.length) (h : BdI B0 rb n ks kv gv g F sg va (.slice p k pc) vd la lb ld w) : Lies w w.heap.size p m (fun i => .string (lb.getD i ByteArray.empty)) := by
  obtain ⟨p', c', e, _, hl'⟩ := own_lies h.rr
  cases e
  rw [hm]
  exact hl'
theorem nilA {B0 rb n m pc : Nat} {ks : Nat → Nat} {kv gv : Value} {g : Nat → Int} {F : Nat → Prop} {sg : Nat → List ByteArray} {p : Option Addr} {vb vd : Value} {la lb : List ByteArray} {ld : List Nat} {w : World} (h : BdI B0 rb n ks kv gv g F sg (.slice p m pc) vb vd la lb ld w) : NilOr p la.length pc := by
  obtain ⟨p', c', e⟩ := own_slice h.ra
  cases e
  exact own_nilor h.ra
theorem nilB {B0 rb n m pc : Nat} {ks : Nat → Nat} {kv gv : Value} {g : Nat → Int} {F : Nat → Prop} {sg : Nat → List ByteArray} {p : Option Addr} {va vd : Value} {la lb : List ByteArray} {ld : List Nat} {w : World} (h : BdI B0 rb n ks kv gv g F sg va (.slice p m pc) vd la lb ld w) : NilOr p lb.length pc := by
  obtain ⟨p', c', e⟩ := own_slice h.rr
  cases e
  exact own_nilor h.rr
theorem liesD {B0 rb n m pc : Nat} {ks : Nat → Nat} {kv gv : Value} {g : Nat → Int} {F : Nat → Prop} {sg : Nat → List ByteArray} {p : Option Addr} {va vb : Value} {la lb : List ByteArray} {ld : List Nat} {w : World} (hm : m = ld.length) (h : BdI B0 rb n ks kv gv g F sg va vb (.slice p ld.length pc) la lb ld w) : Lies w w.heap.size p m (fun i => .int .i64 ((ld.getD i 0 : Nat) : Int)) := by
  obtain ⟨p', c', e, hl'⟩ := own_idL h.rd
  cases e
  rw [hm]
  exact hl'
theorem sum_bd (g : Nat → Int) : ∀ k, (∀ i, i < k → 1 ≤ g i ∧ g i ≤ 3) → 0 ≤ sumTo g k ∧ sumTo g k ≤ 3 * k
  | 0, _ => by simp [sumTo]
  | k + 1, h => by
    have ih := sum_bd g k (fun i hi => h i (by omega))
    have := h k (by omega)
    unfold sumTo
    omega

set_option linter.unusedSimpArgs false in
set_option linter.unusedVariables false in
set_option maxRecDepth 100000 in
set_option maxHeartbeats 12800000 in
theorem blamed_walk {B : Nat} {es : List Addr} {m : Int} (raw : Nat → Int) (p : Option Addr) (q cap : Nat) (size one two round : Int) (w : World) (hl : Lies w w.heap.size p q (fun i => .int .i64 (raw i))) (hq : q ≤ maxLen) (hr : ∀ i, i < q → -9223372036854775808 ≤ raw i ∧ raw i ≤ 9223372036854775807) (hs1 : -9223372036854775808 ≤ size) (hs2 : size ≤ 9223372036854775807) (hr1 : -9223372036854775808 ≤ round) (hr2 : round ≤ 9223372036854775807)
    (hg : GlobAt B es m w) (hbl : B ≤ w.heap.size) (hT : TypAt w) :
    Calls Tryz.prog 7 #[.slice p q cap, .int .i64 size, .int .i64 one, .int .i64 two, .int .i64 round] w fun e w' => e = .returned (.bool true) ∧ Below w.heap.size w w' := by
  obtain ⟨iI, hiI, hz0, hz1, hz2⟩ := info_parts Tryz.infoInt
  obtain ⟨iS, hiS, sz0, sz1, sz2⟩ := info_parts Tryz.infoString
  obtain ⟨a0, he0⟩ := hg.sent.at 0 (by omega)
  obtain ⟨a1, he1⟩ := hg.sent.at 1 (by omega)
  obtain ⟨a2, he2⟩ := hg.sent.at 2 (by omega)
  obtain ⟨a9, he9⟩ := hg.sent.at 9 (by omega)
  obtain ⟨a11, he11⟩ := hg.sent.at 11 (by omega)
  have HL := hide hl
  have HR := hide hr
  have HQ := hide hq
  have HG := hide hg
  have HBL := hide hbl
  have HT := hide hT
  have HE0 := hide he0
  have HE1 := hide he1
  have HE2 := hide he2
  have HE9 := hide he9
  have HE11 := hide he11
  have HPK := hide (keepPick_any size 8 w hs1 hs2 (by omega) (by omega))
  clear hl hr hq hg hbl hT he0 he1 he2 he9 he11 hs1 hs2
  go_enter Tryz.func7, Tryz.ntmps7
  go_wp2_with fail
  refine HPK.out.mono ?_
  rintro e w0 ⟨⟨n0, hn0, rfl⟩, hw0⟩
  have hw0' := hw0.symm
  clear hw0 HPK
  subst hw0'
  obtain ⟨n, hn⟩ : ∃ n, n = n0 + 1 := ⟨_, rfl⟩
  have hn1 : 1 ≤ n := by omega
  have hn8 : n ≤ 8 := by omega
  have hni : (1 : Int) + (n0 : Int) = (n : Int) := by omega
  have HPW := hide (powers_any raw p q cap n w HL.out HQ.out HR.out hn8)
  clear hn hn0
  go_wp2_with fail
  refine HPW.out.mono ?_
  rintro e w1 ⟨gv, g, rfl, hgen, hgb, hb1⟩
  obtain ⟨gp, gc, rfl, hgl⟩ := own_numsK hgen
  obtain ⟨gb, rfl⟩ := own_pt hgen (by omega)
  have HGEN := hide hgen
  have HGB := hide hgb
  have HB1 := hide hb1
  have HNW := hide (ringNew_any n w1 hn1 (by omega))
  clear hgen hgb hb1 hgl HPW
  go_wp2_with fail
  refine HNW.out.mono ?_
  rintro e w2 ⟨ov, kp, kc, ks, rfl, hring, hov, hkeys, hks, hb2⟩
  obtain ⟨kg, rfl⟩ := own_pt hkeys (by omega)
  obtain ⟨rb, hrb⟩ : ∃ z, z = w1.heap.size := ⟨_, rfl⟩
  have HBW2 : Hid (Below w.heap.size w w2) := HB1.out.trans (hb2.mono HB1.out.size)
  have HD0 : Hid (BdI w.heap.size rb n ks (.slice (some ⟨kg, 0, none⟩) n kc) (.slice (some ⟨gb, 0, none⟩) n gc) g (fun k => k = w1.heap.size ∨ some k = ov.ownBlock) (fun _ => []) (.slice none 0 0) (.slice none 0 0) (.slice none 0 0) [] [] [] w2) := by
    have hw1 : w.heap.size ≤ w1.heap.size := HB1.out.size
    have hrl : rb < w2.heap.size := by
      have h1 := (hks 0 (by omega)).1
      have h2 := (hks 0 (by omega)).2.lt
      omega
    refine ⟨by rw [hrb]; exact hring, fun k hk => ?_, own_base hkeys (by omega), fun i hi => ⟨by have := (hks i hi).1; omega, by rw [hrb]; exact (hks i hi).2⟩, own_keep HGEN.out hb2, World.ownsRow_nil _ _ _ _, World.ownsRow_nil _ _ _ _, World.ownsRow_nil _ _ _ _, fun k hk hf => ?_, fun i hi hf => ?_, fun k hk => ⟨fun hf => ?_, fun e => (by cases e)⟩, fun k hk => (by cases hk), fun k hk => (by cases hk), fun k hk => (by cases hk), Nat.le_trans HB1.out.size hb2.size⟩
    · rcases hk with rfl | hk
      · exact ⟨hw1, by omega⟩
      · have h1 := hov.lt k hk.symm
        exact ⟨by omega, h1.2⟩
    · rcases hf with rfl | hf
      · have := (hkeys.lt _ hk).1; omega
      · exact own_tt hkeys hov (by decide) k hk hf.symm
    · rcases hf with h1 | hf
      · have := (hks i hi).1; omega
      · exact own_ne hov (hks i hi).2 (by decide) hf.symm
    · have h1 := (HGEN.out.lt k hk).2
      rcases hf with rfl | hf
      · omega
      · have := (hov.lt k hf.symm).1; omega
  rw [← hrb]
  clear hring hov hkeys hks hb2 hrb HNW HGEN
  have HPK2 := hide (keepPick_any round 21 w2 hr1 hr2 (by omega) (by omega))
  go_wp2_with fail
  refine HPK2.out.mono ?_
  rintro e w3 ⟨⟨rr, hrr, rfl⟩, hw3⟩
  have hw3' := hw3.symm
  clear hw3 HPK2 hr1 hr2
  subst hw3'
  have hrr2 : rr ≤ 20 := by omega
  go_wp2
  go_loopw [14, 15, 16, 17, 18, 19, 20, 21] (fun va vb al bo vd i _ _ wr => ∃ (j : Nat) (F : Nat → Prop) (sg : Nat → List ByteArray), j ≤ n ∧ i = .int .i64 j ∧ al = .int .i64 (sumTo g j) ∧ bo = .int .i64 (weighF g (bits .and .i64 one two) j) ∧ SgI rr one two j sg ∧ BdI w.heap.size rb n ks (.slice (some ⟨kg, 0, none⟩) n kc) (.slice (some ⟨gb, 0, none⟩) n gc) g F sg va vb vd (lstK jaT rr one j) (lstK jbT rr two j) (idsK (bits .and .i64 one two) j) wr ∧ Below w.heap.size w wr) (fun _ _ _ _ _ i _ _ _ => n - (intOf i).toNat)
  case atStart => exact ⟨0, _, _, Nat.zero_le _, rfl, rfl, rfl, ⟨fun i hi => absurd hi (Nat.not_lt_zero i), fun i hi => absurd hi (Nat.not_lt_zero i), fun i => Nat.zero_le _⟩, HD0.out, HBW2.out⟩
  case round =>
    obtain ⟨j, F, sg, hj, rfl, rfl, rfl, hsgi, hd, hb⟩ := hrel
    have HD := hide hd
    have HB := hide hb
    have HSGI := hide hsgi
    have HSL := hide hsgi.l
    clear hd hb hsgi HD0
    by_cases hend : j = n
    · subst hend
      have hji : (j : Int) ≤ 8 := by omega
      obtain ⟨al, hal⟩ : ∃ z, z = sumTo g j := ⟨_, rfl⟩
      obtain ⟨bo, hbo⟩ : ∃ z, z = weighF g (bits .and .i64 one two) j := ⟨_, rfl⟩
      obtain ⟨wo, hwo⟩ : ∃ z, z = weighF g one j := ⟨_, rfl⟩
      obtain ⟨wt, hwt⟩ : ∃ z, z = weighF g two j := ⟨_, rfl⟩
      have hbth := weigh_both g one two j hn8 HGB.out
      have halb := sum_bd g j HGB.out
      have hbob := weighF_bound g (bits .and .i64 one two) j HGB.out
      have hwob := weighF_bound g one j HGB.out
      have hwtb := weighF_bound g two j HGB.out
      rw [← hal, ← hbo, ← hwo, ← hwt] at hbth
      rw [← hal] at halb
      rw [← hbo] at hbob
      rw [← hwo] at hwob
      rw [← hwt] at hwtb
      rw [← hal, ← hbo]
      obtain ⟨hal1, hal2⟩ := halb
      obtain ⟨hbo1, hbo2⟩ := hbob
      obtain ⟨hwo1, hwo2⟩ := hwob
      obtain ⟨hwt1, hwt2⟩ := hwtb
      have HAL := hide hal
      have HWO := hide hwo
      have HWT := hide hwt
      clear hal hbo hwo hwt
      obtain ⟨pa, ca, ea, -, hla⟩ := own_lies HD.out.ra
      obtain ⟨pb, cb, eb, -, hlb⟩ := own_lies HD.out.rr
      rw [lstK_len] at ea hla eb hlb
      subst ea
      subst eb
      obtain ⟨pd, cd, ed, -⟩ := own_idL HD.out.rd
      subst ed
      have hma := idsK_len one j
      have hmb := idsK_len two j
      have hmd := idsK_len (bits .and .i64 one two) j
      obtain ⟨ma, hmae⟩ : ∃ z, z = (idsK one j).length := ⟨_, rfl⟩
      obtain ⟨mb, hmbe⟩ : ∃ z, z = (idsK two j).length := ⟨_, rfl⟩
      obtain ⟨md, hmde⟩ : ∃ z, z = (idsK (bits .and .i64 one two) j).length := ⟨_, rfl⟩
      rw [← hmae] at hma hla
      rw [← hmbe] at hmb hlb
      rw [← hmde] at hmd
      have HMA := hide hmae
      have HMB := hide hmbe
      have HMD := hide hmde
      have HLA := hide hla
      have HLB := hide hlb
      rw [← hmae, ← hmbe, ← hmde]
      clear hla hlb hmae hmbe hmde
      by_cases c1 : 2 * al < 3 * wo
      · by_cases c2 : 2 * al < 3 * wt
        · have K1 := hide c1
          have K2 := hide c2
          have hbig : ¬ 3 * bo ≤ al := by omega
          have hbig2 : decide (3 * bo ≤ al) = false := decide_eq_false hbig
          have HFO1 := hide (follow_yes rb g (some ⟨gb, 0, none⟩) j gc a0 (regOf g j) wr (liesK HD.out) ((HG.out.below HBL.out HB.out).sent.cell 0 _ _ rfl HE0.out) (genK_yes hn8 hn1 HGB.out))
          go_wp2_with fail
          refine HFO1.out.mono ?_
          rintro e u1 ⟨cx, hcx, rfl, hcl1, hb⟩
          have HDu1 := hide (HD.out.below hb)
          have HBu1 : Hid (Below w.heap.size w u1) := HB.out.trans (hb.mono HB.out.size)
          have HBs1 := hide hb
          have HCL1 := hide hcl1
          clear hb hcl1 HFO1
          have HFO2 := hide (follow_yes rb g (some ⟨gb, 0, none⟩) j gc a0 (regOf g j) u1 (liesK HDu1.out) ((HG.out.below HBL.out HBu1.out).sent.cell 0 _ _ rfl HE0.out) (genK_yes hn8 hn1 HGB.out))
          go_wp2_with fail
          refine HFO2.out.mono ?_
          rintro e u2 ⟨cy, hcy, rfl, hcl2, hb⟩
          have HDu2 := hide (HDu1.out.below hb)
          have HBu2 : Hid (Below w.heap.size w u2) := HBu1.out.trans (hb.mono HBu1.out.size)
          have HBs2 := hide hb
          have HCL2 := hide hcl2
          clear hb hcl2 HFO2
          have HAV := hide (keepAlive_any u2 (HG.out.below HBL.out HBu2.out) (Nat.le_trans HBL.out HBu2.out.size))
          go_wp2_with fail
          refine HAV.out.mono ?_
          rintro e u3 ⟨rfl, hb⟩
          have HDu3 := hide (HDu2.out.below hb)
          have HBu3 : Hid (Below w.heap.size w u3) := HBu2.out.trans (hb.mono HBu2.out.size)
          have HC1 : Hid (ClientAt u3 cx rb (regOf g j) 0) := blk (blk HCL1.out HBs2.out) hb
          have HC2 : Hid (ClientAt u3 cy rb (regOf g j) 0) := blk HCL2.out hb
          have HNF1 : Hid (¬ F cx) := fun hf => by have := (HD.out.fl _ hf).2; omega
          have HNF2 : Hid (¬ F cy) := fun hf => by have h1 := (HD.out.fl _ hf).2; have h2 := HBs1.out.size; omega
          have HNE : Hid (cx ≠ cy) := fun e => by have h1 := row_lt0 HCL1.out; omega
          clear hb HAV
          have HA1 : Hid (Calls Tryz.prog 46 #[.pointer (some ⟨cx, 0, none⟩), .string ⟨#[106, 97, 49]⟩, .slice pa ma ca] u3 fun e w' => e = .returned (.nilIface) ∧ ButP cx u3 w') := by
            have hx := acceptK F cx rb j sg g one jaT rr pa ca es a1 a2 a9 a11 m u3 (by decide) hrr2 hn8 HGB.out (behind_ja hn8) HSGI.out.a HC1.out HDu3.out.ring (fun q hq => (HDu3.out.fl q hq).2) (HG.out.below HBL.out HBu3.out).sent HE1.out HE2.out HE9.out HE11.out (Ext.cell HT.out (Ext.of HBu3.out)) (HG.out.below HBL.out HBu3.out).len (by rw [← HMA.out]; exact (liesA (by rw [lstK_len]; exact HMA.out) HDu3.out))
            rw [← HMA.out, ← HAL.out, ← HWO.out, if_pos K1.out] at hx
            exact hx
          go_wp2_with fail
          refine HA1.out.mono ?_
          rintro e u4 ⟨rfl, hbp⟩
          have HDu4 := hide (HDu3.out.but HC1.out HNF1.out hbp)
          have HBu4 : Hid (Below w.heap.size w u4) := HBu3.out.trans (same_below HBu3.out.size (fun q hq => by rw [hq]; have h1 := HB.out.size; omega) hbp)
          have HC2b : Hid (ClientAt u4 cy rb (regOf g j) 0) := (hbp.block cy (row_lt0 HC2.out) (fun e => HNE.out e.symm)).trans HC2.out
          clear hbp HA1
          have HA2 : Hid (Calls Tryz.prog 46 #[.pointer (some ⟨cy, 0, none⟩), .string ⟨#[106, 98, 50]⟩, .slice pb mb cb] u4 fun e w' => e = .returned (.nilIface) ∧ ButP cy u4 w') := by
            have hx := acceptK F cy rb j sg g two jbT rr pb cb es a1 a2 a9 a11 m u4 (by decide) hrr2 hn8 HGB.out (behind_jb hn8) HSGI.out.b HC2b.out HDu4.out.ring (fun q hq => (HDu4.out.fl q hq).2) (HG.out.below HBL.out HBu4.out).sent HE1.out HE2.out HE9.out HE11.out (Ext.cell HT.out (Ext.of HBu4.out)) (HG.out.below HBL.out HBu4.out).len (by rw [← HMB.out]; exact (liesB (by rw [lstK_len]; exact HMB.out) HDu4.out))
            rw [← HMB.out, ← HAL.out, ← HWT.out, if_pos K2.out] at hx
            exact hx
          go_wp2_with fail
          refine HA2.out.mono ?_
          rintro e u5 ⟨rfl, hbp⟩
          have HDu5 := hide (HDu4.out.but HC2b.out HNF2.out hbp)
          have HBu5 : Hid (Below w.heap.size w u5) := HBu4.out.trans (same_below HBu4.out.size (fun q hq => by rw [hq]; have h1 := HB.out.size; have h2 := HBs1.out.size; omega) hbp)
          clear hbp HA2
          have HBLM := hide (blame_any F rb j sg (fun k => (lstK jaT rr one j).getD k ByteArray.empty) (fun k => (lstK jbT rr two j).getD k ByteArray.empty) pa pb ma mb ca cb a1 a2 u5 HDu5.out.ring (fun q hq => (HDu5.out.fl q hq).2) ((HG.out.below HBL.out HBu5.out).sent.cell 1 _ _ rfl HE1.out) ((HG.out.below HBL.out HBu5.out).sent.cell 2 _ _ rfl HE2.out) (by rw [HMA.out, ← lstK_len jaT rr]; exact nilA HD.out) (by rw [HMB.out, ← lstK_len jbT rr]; exact nilB HD.out) (liesA (by rw [lstK_len]; exact HMA.out) HDu5.out) (liesB (by rw [lstK_len]; exact HMB.out) HDu5.out) (by omega))
          rw [HMA.out, HMB.out, blameK hrr2 hn8 HSGI.out.a HSGI.out.b, ← HMA.out, ← HMB.out] at HBLM
          go_wp2_with fail
          refine HBLM.out.mono ?_
          rintro e u6 ⟨v6, rfl, hown6, hb⟩
          obtain ⟨p6, c6, e6, hl6⟩ := own_idL (l := idsK (bits .and .i64 one two) j) hown6
          rw [← HMD.out] at e6 hl6
          subst e6
          have HDu6 := hide (HDu5.out.below hb)
          have HBu6 : Hid (Below w.heap.size w u6) := HBu5.out.trans (hb.mono HBu5.out.size)
          have HL6 := hide hl6
          clear hown6 hl6 hb HBLM
          have HSAME := hide (keepSame_any (fun i => (((idsK (bits .and .i64 one two) j).getD i 0 : Nat) : Int)) (fun i => (((idsK (bits .and .i64 one two) j).getD i 0 : Nat) : Int)) p6 pd md md c6 cd u6 (by unfold maxLen; omega) HL6.out (liesD HMD.out HDu6.out))
          go_wp2_with fail
          refine HSAME.out.mono ?_
          rintro e u7 ⟨⟨ob, rfl, hob⟩, hb⟩
          have hob2 : ob = true := by first | exact hob rfl (fun _ _ => rfl) | exact hob trivial (fun _ _ => trivial) | simpa using hob
          subst hob2
          have HDu7 := hide (HDu6.out.below hb)
          have HBu7 : Hid (Below w.heap.size w u7) := HBu6.out.trans (hb.mono HBu6.out.size)
          clear hob hb HSAME HL6
          have HGL7 := hide (liesK HDu7.out)
          haveI := Ext.ne u7
          go_wp2_with fail
          refine wp_region_ext (by kernel_rfl) (by kernel_rfl) ?_
          repeat (first | go_big_quiet_skip | (go_big_quiet_want; (go_big_quiet_op; go_big_quiet_on)))
          go_big_quiet_want
          go_big_quiet_op
          apply Exists.intro
          refine ⟨fun u => ?_, ?_⟩
          · have hc := Calls.extSame u (weigh_any g (some ⟨gb, 0, none⟩) j gc one u.W ((HGL7.out.below u.b).more u.b.size) hn8 HGB.out)
            rw [← HWO.out] at hc
            exact hc
          go_big_quiet_on
          repeat (first | go_big_quiet_skip | (go_big_quiet_want; (go_big_quiet_op; go_big_quiet_on)))
          go_big_quiet_want
          go_big_quiet_op
          apply Exists.intro
          refine ⟨fun u => ?_, ?_⟩
          · have hc := Calls.extSame u (weigh_any g (some ⟨gb, 0, none⟩) j gc two u.W ((HGL7.out.below u.b).more u.b.size) hn8 HGB.out)
            rw [← HWT.out] at hc
            exact hc
          go_big_quiet_on
          repeat (first | go_big_quiet_skip | (go_big_quiet_want; (go_big_quiet_op; go_big_quiet_on)))
          refine wpQuiet_nil ?_
          rintro _ ⟨u, rfl⟩
          have HBU : Hid (Below w.heap.size w u.W) := HBu7.out.trans (u.b.mono HBu7.out.size)
          go_wp2
          go_ret
          exact ⟨rfl, HBU.out⟩
        · have K1 := hide c1
          have K2 := hide c2
          have HFO1 := hide (follow_yes rb g (some ⟨gb, 0, none⟩) j gc a0 (regOf g j) wr (liesK HD.out) ((HG.out.below HBL.out HB.out).sent.cell 0 _ _ rfl HE0.out) (genK_yes hn8 hn1 HGB.out))
          go_wp2_with fail
          refine HFO1.out.mono ?_
          rintro e u1 ⟨cx, hcx, rfl, hcl1, hb⟩
          have HDu1 := hide (HD.out.below hb)
          have HBu1 : Hid (Below w.heap.size w u1) := HB.out.trans (hb.mono HB.out.size)
          have HBs1 := hide hb
          have HCL1 := hide hcl1
          clear hb hcl1 HFO1
          have HFO2 := hide (follow_yes rb g (some ⟨gb, 0, none⟩) j gc a0 (regOf g j) u1 (liesK HDu1.out) ((HG.out.below HBL.out HBu1.out).sent.cell 0 _ _ rfl HE0.out) (genK_yes hn8 hn1 HGB.out))
          go_wp2_with fail
          refine HFO2.out.mono ?_
          rintro e u2 ⟨cy, hcy, rfl, hcl2, hb⟩
          have HDu2 := hide (HDu1.out.below hb)
          have HBu2 : Hid (Below w.heap.size w u2) := HBu1.out.trans (hb.mono HBu1.out.size)
          have HBs2 := hide hb
          have HCL2 := hide hcl2
          clear hb hcl2 HFO2
          have HAV := hide (keepAlive_any u2 (HG.out.below HBL.out HBu2.out) (Nat.le_trans HBL.out HBu2.out.size))
          go_wp2_with fail
          refine HAV.out.mono ?_
          rintro e u3 ⟨rfl, hb⟩
          have HDu3 := hide (HDu2.out.below hb)
          have HBu3 : Hid (Below w.heap.size w u3) := HBu2.out.trans (hb.mono HBu2.out.size)
          have HC1 : Hid (ClientAt u3 cx rb (regOf g j) 0) := blk (blk HCL1.out HBs2.out) hb
          have HC2 : Hid (ClientAt u3 cy rb (regOf g j) 0) := blk HCL2.out hb
          have HNF1 : Hid (¬ F cx) := fun hf => by have := (HD.out.fl _ hf).2; omega
          have HNF2 : Hid (¬ F cy) := fun hf => by have h1 := (HD.out.fl _ hf).2; have h2 := HBs1.out.size; omega
          have HNE : Hid (cx ≠ cy) := fun e => by have h1 := row_lt0 HCL1.out; omega
          clear hb HAV
          have HA1 : Hid (Calls Tryz.prog 46 #[.pointer (some ⟨cx, 0, none⟩), .string ⟨#[106, 97, 49]⟩, .slice pa ma ca] u3 fun e w' => e = .returned (.nilIface) ∧ ButP cx u3 w') := by
            have hx := acceptK F cx rb j sg g one jaT rr pa ca es a1 a2 a9 a11 m u3 (by decide) hrr2 hn8 HGB.out (behind_ja hn8) HSGI.out.a HC1.out HDu3.out.ring (fun q hq => (HDu3.out.fl q hq).2) (HG.out.below HBL.out HBu3.out).sent HE1.out HE2.out HE9.out HE11.out (Ext.cell HT.out (Ext.of HBu3.out)) (HG.out.below HBL.out HBu3.out).len (by rw [← HMA.out]; exact (liesA (by rw [lstK_len]; exact HMA.out) HDu3.out))
            rw [← HMA.out, ← HAL.out, ← HWO.out, if_pos K1.out] at hx
            exact hx
          go_wp2_with fail
          refine HA1.out.mono ?_
          rintro e u4 ⟨rfl, hbp⟩
          have HDu4 := hide (HDu3.out.but HC1.out HNF1.out hbp)
          have HBu4 : Hid (Below w.heap.size w u4) := HBu3.out.trans (same_below HBu3.out.size (fun q hq => by rw [hq]; have h1 := HB.out.size; omega) hbp)
          have HC2b : Hid (ClientAt u4 cy rb (regOf g j) 0) := (hbp.block cy (row_lt0 HC2.out) (fun e => HNE.out e.symm)).trans HC2.out
          clear hbp HA1
          have HA2 : Hid (Calls Tryz.prog 46 #[.pointer (some ⟨cy, 0, none⟩), .string ⟨#[106, 98, 50]⟩, .slice pb mb cb] u4 fun e w' => e = .returned (.iface 294 (.pointer (some a9))) ∧ ButP cy u4 w') := by
            have hx := acceptK F cy rb j sg g two jbT rr pb cb es a1 a2 a9 a11 m u4 (by decide) hrr2 hn8 HGB.out (behind_jb hn8) HSGI.out.b HC2b.out HDu4.out.ring (fun q hq => (HDu4.out.fl q hq).2) (HG.out.below HBL.out HBu4.out).sent HE1.out HE2.out HE9.out HE11.out (Ext.cell HT.out (Ext.of HBu4.out)) (HG.out.below HBL.out HBu4.out).len (by rw [← HMB.out]; exact (liesB (by rw [lstK_len]; exact HMB.out) HDu4.out))
            rw [← HMB.out, ← HAL.out, ← HWT.out, if_neg (show ¬ 2 * al < 3 * wt by have := K2.out; omega)] at hx
            exact hx
          go_wp2_with fail
          refine HA2.out.mono ?_
          rintro e u5 ⟨rfl, hbp⟩
          have HDu5 := hide (HDu4.out.but HC2b.out HNF2.out hbp)
          have HBu5 : Hid (Below w.heap.size w u5) := HBu4.out.trans (same_below HBu4.out.size (fun q hq => by rw [hq]; have h1 := HB.out.size; have h2 := HBs1.out.size; omega) hbp)
          clear hbp HA2
          have HBLM := hide (blame_any F rb j sg (fun k => (lstK jaT rr one j).getD k ByteArray.empty) (fun k => (lstK jbT rr two j).getD k ByteArray.empty) pa pb ma mb ca cb a1 a2 u5 HDu5.out.ring (fun q hq => (HDu5.out.fl q hq).2) ((HG.out.below HBL.out HBu5.out).sent.cell 1 _ _ rfl HE1.out) ((HG.out.below HBL.out HBu5.out).sent.cell 2 _ _ rfl HE2.out) (by rw [HMA.out, ← lstK_len jaT rr]; exact nilA HD.out) (by rw [HMB.out, ← lstK_len jbT rr]; exact nilB HD.out) (liesA (by rw [lstK_len]; exact HMA.out) HDu5.out) (liesB (by rw [lstK_len]; exact HMB.out) HDu5.out) (by omega))
          rw [HMA.out, HMB.out, blameK hrr2 hn8 HSGI.out.a HSGI.out.b, ← HMA.out, ← HMB.out] at HBLM
          go_wp2_with fail
          refine HBLM.out.mono ?_
          rintro e u6 ⟨v6, rfl, hown6, hb⟩
          obtain ⟨p6, c6, e6, hl6⟩ := own_idL (l := idsK (bits .and .i64 one two) j) hown6
          rw [← HMD.out] at e6 hl6
          subst e6
          have HDu6 := hide (HDu5.out.below hb)
          have HBu6 : Hid (Below w.heap.size w u6) := HBu5.out.trans (hb.mono HBu5.out.size)
          have HL6 := hide hl6
          clear hown6 hl6 hb HBLM
          have HSAME := hide (keepSame_any (fun i => (((idsK (bits .and .i64 one two) j).getD i 0 : Nat) : Int)) (fun i => (((idsK (bits .and .i64 one two) j).getD i 0 : Nat) : Int)) p6 pd md md c6 cd u6 (by unfold maxLen; omega) HL6.out (liesD HMD.out HDu6.out))
          go_wp2_with fail
          refine HSAME.out.mono ?_
          rintro e u7 ⟨⟨ob, rfl, hob⟩, hb⟩
          have hob2 : ob = true := by first | exact hob rfl (fun _ _ => rfl) | exact hob trivial (fun _ _ => trivial) | simpa using hob
          subst hob2
          have HDu7 := hide (HDu6.out.below hb)
          have HBu7 : Hid (Below w.heap.size w u7) := HBu6.out.trans (hb.mono HBu6.out.size)
          clear hob hb HSAME HL6
          have g2 : decide (2 * al < 3 * wt) = false := decide_eq_false (by have := K2.out; omega)
          have HGL7 := hide (liesK HDu7.out)
          haveI := Ext.ne u7
          go_wp2_with fail
          refine wp_region_ext (by kernel_rfl) (by kernel_rfl) ?_
          repeat (first | go_big_quiet_skip | (go_big_quiet_want; (go_big_quiet_op; go_big_quiet_on)))
          go_big_quiet_want
          go_big_quiet_op
          apply Exists.intro
          refine ⟨fun u => ?_, ?_⟩
          · have hc := Calls.extSame u (weigh_any g (some ⟨gb, 0, none⟩) j gc one u.W ((HGL7.out.below u.b).more u.b.size) hn8 HGB.out)
            rw [← HWO.out] at hc
            exact hc
          go_big_quiet_on
          repeat (first | go_big_quiet_skip | (go_big_quiet_want; (go_big_quiet_op; go_big_quiet_on)))
          go_big_quiet_want
          go_big_quiet_op
          apply Exists.intro
          refine ⟨fun u => ?_, ?_⟩
          · have hc := Calls.extSame u (weigh_any g (some ⟨gb, 0, none⟩) j gc two u.W ((HGL7.out.below u.b).more u.b.size) hn8 HGB.out)
            rw [← HWT.out] at hc
            exact hc
          go_big_quiet_on
          repeat (first | go_big_quiet_skip | (go_big_quiet_want; (go_big_quiet_op; go_big_quiet_on)))
          refine wpQuiet_nil ?_
          rintro _ ⟨u, rfl⟩
          have HBU : Hid (Below w.heap.size w u.W) := HBu7.out.trans (u.b.mono HBu7.out.size)
          go_wp2
          go_ret
          exact ⟨rfl, HBU.out⟩
      · by_cases c2 : 2 * al < 3 * wt
        · have K1 := hide c1
          have K2 := hide c2
          have HFO1 := hide (follow_yes rb g (some ⟨gb, 0, none⟩) j gc a0 (regOf g j) wr (liesK HD.out) ((HG.out.below HBL.out HB.out).sent.cell 0 _ _ rfl HE0.out) (genK_yes hn8 hn1 HGB.out))
          go_wp2_with fail
          refine HFO1.out.mono ?_
          rintro e u1 ⟨cx, hcx, rfl, hcl1, hb⟩
          have HDu1 := hide (HD.out.below hb)
          have HBu1 : Hid (Below w.heap.size w u1) := HB.out.trans (hb.mono HB.out.size)
          have HBs1 := hide hb
          have HCL1 := hide hcl1
          clear hb hcl1 HFO1
          have HFO2 := hide (follow_yes rb g (some ⟨gb, 0, none⟩) j gc a0 (regOf g j) u1 (liesK HDu1.out) ((HG.out.below HBL.out HBu1.out).sent.cell 0 _ _ rfl HE0.out) (genK_yes hn8 hn1 HGB.out))
          go_wp2_with fail
          refine HFO2.out.mono ?_
          rintro e u2 ⟨cy, hcy, rfl, hcl2, hb⟩
          have HDu2 := hide (HDu1.out.below hb)
          have HBu2 : Hid (Below w.heap.size w u2) := HBu1.out.trans (hb.mono HBu1.out.size)
          have HBs2 := hide hb
          have HCL2 := hide hcl2
          clear hb hcl2 HFO2
          have HAV := hide (keepAlive_any u2 (HG.out.below HBL.out HBu2.out) (Nat.le_trans HBL.out HBu2.out.size))
          go_wp2_with fail
          refine HAV.out.mono ?_
          rintro e u3 ⟨rfl, hb⟩
          have HDu3 := hide (HDu2.out.below hb)
          have HBu3 : Hid (Below w.heap.size w u3) := HBu2.out.trans (hb.mono HBu2.out.size)
          have HC1 : Hid (ClientAt u3 cx rb (regOf g j) 0) := blk (blk HCL1.out HBs2.out) hb
          have HC2 : Hid (ClientAt u3 cy rb (regOf g j) 0) := blk HCL2.out hb
          have HNF1 : Hid (¬ F cx) := fun hf => by have := (HD.out.fl _ hf).2; omega
          have HNF2 : Hid (¬ F cy) := fun hf => by have h1 := (HD.out.fl _ hf).2; have h2 := HBs1.out.size; omega
          have HNE : Hid (cx ≠ cy) := fun e => by have h1 := row_lt0 HCL1.out; omega
          clear hb HAV
          have HA1 : Hid (Calls Tryz.prog 46 #[.pointer (some ⟨cx, 0, none⟩), .string ⟨#[106, 97, 49]⟩, .slice pa ma ca] u3 fun e w' => e = .returned (.iface 294 (.pointer (some a9))) ∧ ButP cx u3 w') := by
            have hx := acceptK F cx rb j sg g one jaT rr pa ca es a1 a2 a9 a11 m u3 (by decide) hrr2 hn8 HGB.out (behind_ja hn8) HSGI.out.a HC1.out HDu3.out.ring (fun q hq => (HDu3.out.fl q hq).2) (HG.out.below HBL.out HBu3.out).sent HE1.out HE2.out HE9.out HE11.out (Ext.cell HT.out (Ext.of HBu3.out)) (HG.out.below HBL.out HBu3.out).len (by rw [← HMA.out]; exact (liesA (by rw [lstK_len]; exact HMA.out) HDu3.out))
            rw [← HMA.out, ← HAL.out, ← HWO.out, if_neg (show ¬ 2 * al < 3 * wo by have := K1.out; omega)] at hx
            exact hx
          go_wp2_with fail
          refine HA1.out.mono ?_
          rintro e u4 ⟨rfl, hbp⟩
          have HDu4 := hide (HDu3.out.but HC1.out HNF1.out hbp)
          have HBu4 : Hid (Below w.heap.size w u4) := HBu3.out.trans (same_below HBu3.out.size (fun q hq => by rw [hq]; have h1 := HB.out.size; omega) hbp)
          have HC2b : Hid (ClientAt u4 cy rb (regOf g j) 0) := (hbp.block cy (row_lt0 HC2.out) (fun e => HNE.out e.symm)).trans HC2.out
          clear hbp HA1
          have HA2 : Hid (Calls Tryz.prog 46 #[.pointer (some ⟨cy, 0, none⟩), .string ⟨#[106, 98, 50]⟩, .slice pb mb cb] u4 fun e w' => e = .returned (.nilIface) ∧ ButP cy u4 w') := by
            have hx := acceptK F cy rb j sg g two jbT rr pb cb es a1 a2 a9 a11 m u4 (by decide) hrr2 hn8 HGB.out (behind_jb hn8) HSGI.out.b HC2b.out HDu4.out.ring (fun q hq => (HDu4.out.fl q hq).2) (HG.out.below HBL.out HBu4.out).sent HE1.out HE2.out HE9.out HE11.out (Ext.cell HT.out (Ext.of HBu4.out)) (HG.out.below HBL.out HBu4.out).len (by rw [← HMB.out]; exact (liesB (by rw [lstK_len]; exact HMB.out) HDu4.out))
            rw [← HMB.out, ← HAL.out, ← HWT.out, if_pos K2.out] at hx
            exact hx
          go_wp2_with fail
          refine HA2.out.mono ?_
          rintro e u5 ⟨rfl, hbp⟩
          have HDu5 := hide (HDu4.out.but HC2b.out HNF2.out hbp)
          have HBu5 : Hid (Below w.heap.size w u5) := HBu4.out.trans (same_below HBu4.out.size (fun q hq => by rw [hq]; have h1 := HB.out.size; have h2 := HBs1.out.size; omega) hbp)
          clear hbp HA2
          have HBLM := hide (blame_any F rb j sg (fun k => (lstK jaT rr one j).getD k ByteArray.empty) (fun k => (lstK jbT rr two j).getD k ByteArray.empty) pa pb ma mb ca cb a1 a2 u5 HDu5.out.ring (fun q hq => (HDu5.out.fl q hq).2) ((HG.out.below HBL.out HBu5.out).sent.cell 1 _ _ rfl HE1.out) ((HG.out.below HBL.out HBu5.out).sent.cell 2 _ _ rfl HE2.out) (by rw [HMA.out, ← lstK_len jaT rr]; exact nilA HD.out) (by rw [HMB.out, ← lstK_len jbT rr]; exact nilB HD.out) (liesA (by rw [lstK_len]; exact HMA.out) HDu5.out) (liesB (by rw [lstK_len]; exact HMB.out) HDu5.out) (by omega))
          rw [HMA.out, HMB.out, blameK hrr2 hn8 HSGI.out.a HSGI.out.b, ← HMA.out, ← HMB.out] at HBLM
          go_wp2_with fail
          refine HBLM.out.mono ?_
          rintro e u6 ⟨v6, rfl, hown6, hb⟩
          obtain ⟨p6, c6, e6, hl6⟩ := own_idL (l := idsK (bits .and .i64 one two) j) hown6
          rw [← HMD.out] at e6 hl6
          subst e6
          have HDu6 := hide (HDu5.out.below hb)
          have HBu6 : Hid (Below w.heap.size w u6) := HBu5.out.trans (hb.mono HBu5.out.size)
          have HL6 := hide hl6
          clear hown6 hl6 hb HBLM
          have HSAME := hide (keepSame_any (fun i => (((idsK (bits .and .i64 one two) j).getD i 0 : Nat) : Int)) (fun i => (((idsK (bits .and .i64 one two) j).getD i 0 : Nat) : Int)) p6 pd md md c6 cd u6 (by unfold maxLen; omega) HL6.out (liesD HMD.out HDu6.out))
          go_wp2_with fail
          refine HSAME.out.mono ?_
          rintro e u7 ⟨⟨ob, rfl, hob⟩, hb⟩
          have hob2 : ob = true := by first | exact hob rfl (fun _ _ => rfl) | exact hob trivial (fun _ _ => trivial) | simpa using hob
          subst hob2
          have HDu7 := hide (HDu6.out.below hb)
          have HBu7 : Hid (Below w.heap.size w u7) := HBu6.out.trans (hb.mono HBu6.out.size)
          clear hob hb HSAME HL6
          have g1 : decide (2 * al < 3 * wo) = false := decide_eq_false (by have := K1.out; omega)
          have HGL7 := hide (liesK HDu7.out)
          haveI := Ext.ne u7
          go_wp2_with fail
          refine wp_region_ext (by kernel_rfl) (by kernel_rfl) ?_
          repeat (first | go_big_quiet_skip | (go_big_quiet_want; (go_big_quiet_op; go_big_quiet_on)))
          go_big_quiet_want
          go_big_quiet_op
          apply Exists.intro
          refine ⟨fun u => ?_, ?_⟩
          · have hc := Calls.extSame u (weigh_any g (some ⟨gb, 0, none⟩) j gc one u.W ((HGL7.out.below u.b).more u.b.size) hn8 HGB.out)
            rw [← HWO.out] at hc
            exact hc
          go_big_quiet_on
          repeat (first | go_big_quiet_skip | (go_big_quiet_want; (go_big_quiet_op; go_big_quiet_on)))
          go_big_quiet_want
          go_big_quiet_op
          apply Exists.intro
          refine ⟨fun u => ?_, ?_⟩
          · have hc := Calls.extSame u (weigh_any g (some ⟨gb, 0, none⟩) j gc two u.W ((HGL7.out.below u.b).more u.b.size) hn8 HGB.out)
            rw [← HWT.out] at hc
            exact hc
          go_big_quiet_on
          repeat (first | go_big_quiet_skip | (go_big_quiet_want; (go_big_quiet_op; go_big_quiet_on)))
          refine wpQuiet_nil ?_
          rintro _ ⟨u, rfl⟩
          have HBU : Hid (Below w.heap.size w u.W) := HBu7.out.trans (u.b.mono HBu7.out.size)
          go_wp2
          go_ret
          exact ⟨rfl, HBU.out⟩
        · have K1 := hide c1
          have K2 := hide c2
          have HFO1 := hide (follow_yes rb g (some ⟨gb, 0, none⟩) j gc a0 (regOf g j) wr (liesK HD.out) ((HG.out.below HBL.out HB.out).sent.cell 0 _ _ rfl HE0.out) (genK_yes hn8 hn1 HGB.out))
          go_wp2_with fail
          refine HFO1.out.mono ?_
          rintro e u1 ⟨cx, hcx, rfl, hcl1, hb⟩
          have HDu1 := hide (HD.out.below hb)
          have HBu1 : Hid (Below w.heap.size w u1) := HB.out.trans (hb.mono HB.out.size)
          have HBs1 := hide hb
          have HCL1 := hide hcl1
          clear hb hcl1 HFO1
          have HFO2 := hide (follow_yes rb g (some ⟨gb, 0, none⟩) j gc a0 (regOf g j) u1 (liesK HDu1.out) ((HG.out.below HBL.out HBu1.out).sent.cell 0 _ _ rfl HE0.out) (genK_yes hn8 hn1 HGB.out))
          go_wp2_with fail
          refine HFO2.out.mono ?_
          rintro e u2 ⟨cy, hcy, rfl, hcl2, hb⟩
          have HDu2 := hide (HDu1.out.below hb)
          have HBu2 : Hid (Below w.heap.size w u2) := HBu1.out.trans (hb.mono HBu1.out.size)
          have HBs2 := hide hb
          have HCL2 := hide hcl2
          clear hb hcl2 HFO2
          have HAV := hide (keepAlive_any u2 (HG.out.below HBL.out HBu2.out) (Nat.le_trans HBL.out HBu2.out.size))
          go_wp2_with fail
          refine HAV.out.mono ?_
          rintro e u3 ⟨rfl, hb⟩
          have HDu3 := hide (HDu2.out.below hb)
          have HBu3 : Hid (Below w.heap.size w u3) := HBu2.out.trans (hb.mono HBu2.out.size)
          have HC1 : Hid (ClientAt u3 cx rb (regOf g j) 0) := blk (blk HCL1.out HBs2.out) hb
          have HC2 : Hid (ClientAt u3 cy rb (regOf g j) 0) := blk HCL2.out hb
          have HNF1 : Hid (¬ F cx) := fun hf => by have := (HD.out.fl _ hf).2; omega
          have HNF2 : Hid (¬ F cy) := fun hf => by have h1 := (HD.out.fl _ hf).2; have h2 := HBs1.out.size; omega
          have HNE : Hid (cx ≠ cy) := fun e => by have h1 := row_lt0 HCL1.out; omega
          clear hb HAV
          have HA1 : Hid (Calls Tryz.prog 46 #[.pointer (some ⟨cx, 0, none⟩), .string ⟨#[106, 97, 49]⟩, .slice pa ma ca] u3 fun e w' => e = .returned (.iface 294 (.pointer (some a9))) ∧ ButP cx u3 w') := by
            have hx := acceptK F cx rb j sg g one jaT rr pa ca es a1 a2 a9 a11 m u3 (by decide) hrr2 hn8 HGB.out (behind_ja hn8) HSGI.out.a HC1.out HDu3.out.ring (fun q hq => (HDu3.out.fl q hq).2) (HG.out.below HBL.out HBu3.out).sent HE1.out HE2.out HE9.out HE11.out (Ext.cell HT.out (Ext.of HBu3.out)) (HG.out.below HBL.out HBu3.out).len (by rw [← HMA.out]; exact (liesA (by rw [lstK_len]; exact HMA.out) HDu3.out))
            rw [← HMA.out, ← HAL.out, ← HWO.out, if_neg (show ¬ 2 * al < 3 * wo by have := K1.out; omega)] at hx
            exact hx
          go_wp2_with fail
          refine HA1.out.mono ?_
          rintro e u4 ⟨rfl, hbp⟩
          have HDu4 := hide (HDu3.out.but HC1.out HNF1.out hbp)
          have HBu4 : Hid (Below w.heap.size w u4) := HBu3.out.trans (same_below HBu3.out.size (fun q hq => by rw [hq]; have h1 := HB.out.size; omega) hbp)
          have HC2b : Hid (ClientAt u4 cy rb (regOf g j) 0) := (hbp.block cy (row_lt0 HC2.out) (fun e => HNE.out e.symm)).trans HC2.out
          clear hbp HA1
          have HA2 : Hid (Calls Tryz.prog 46 #[.pointer (some ⟨cy, 0, none⟩), .string ⟨#[106, 98, 50]⟩, .slice pb mb cb] u4 fun e w' => e = .returned (.iface 294 (.pointer (some a9))) ∧ ButP cy u4 w') := by
            have hx := acceptK F cy rb j sg g two jbT rr pb cb es a1 a2 a9 a11 m u4 (by decide) hrr2 hn8 HGB.out (behind_jb hn8) HSGI.out.b HC2b.out HDu4.out.ring (fun q hq => (HDu4.out.fl q hq).2) (HG.out.below HBL.out HBu4.out).sent HE1.out HE2.out HE9.out HE11.out (Ext.cell HT.out (Ext.of HBu4.out)) (HG.out.below HBL.out HBu4.out).len (by rw [← HMB.out]; exact (liesB (by rw [lstK_len]; exact HMB.out) HDu4.out))
            rw [← HMB.out, ← HAL.out, ← HWT.out, if_neg (show ¬ 2 * al < 3 * wt by have := K2.out; omega)] at hx
            exact hx
          go_wp2_with fail
          refine HA2.out.mono ?_
          rintro e u5 ⟨rfl, hbp⟩
          have HDu5 := hide (HDu4.out.but HC2b.out HNF2.out hbp)
          have HBu5 : Hid (Below w.heap.size w u5) := HBu4.out.trans (same_below HBu4.out.size (fun q hq => by rw [hq]; have h1 := HB.out.size; have h2 := HBs1.out.size; omega) hbp)
          clear hbp HA2
          have HBLM := hide (blame_any F rb j sg (fun k => (lstK jaT rr one j).getD k ByteArray.empty) (fun k => (lstK jbT rr two j).getD k ByteArray.empty) pa pb ma mb ca cb a1 a2 u5 HDu5.out.ring (fun q hq => (HDu5.out.fl q hq).2) ((HG.out.below HBL.out HBu5.out).sent.cell 1 _ _ rfl HE1.out) ((HG.out.below HBL.out HBu5.out).sent.cell 2 _ _ rfl HE2.out) (by rw [HMA.out, ← lstK_len jaT rr]; exact nilA HD.out) (by rw [HMB.out, ← lstK_len jbT rr]; exact nilB HD.out) (liesA (by rw [lstK_len]; exact HMA.out) HDu5.out) (liesB (by rw [lstK_len]; exact HMB.out) HDu5.out) (by omega))
          rw [HMA.out, HMB.out, blameK hrr2 hn8 HSGI.out.a HSGI.out.b, ← HMA.out, ← HMB.out] at HBLM
          go_wp2_with fail
          refine HBLM.out.mono ?_
          rintro e u6 ⟨v6, rfl, hown6, hb⟩
          obtain ⟨p6, c6, e6, hl6⟩ := own_idL (l := idsK (bits .and .i64 one two) j) hown6
          rw [← HMD.out] at e6 hl6
          subst e6
          have HDu6 := hide (HDu5.out.below hb)
          have HBu6 : Hid (Below w.heap.size w u6) := HBu5.out.trans (hb.mono HBu5.out.size)
          have HL6 := hide hl6
          clear hown6 hl6 hb HBLM
          have HSAME := hide (keepSame_any (fun i => (((idsK (bits .and .i64 one two) j).getD i 0 : Nat) : Int)) (fun i => (((idsK (bits .and .i64 one two) j).getD i 0 : Nat) : Int)) p6 pd md md c6 cd u6 (by unfold maxLen; omega) HL6.out (liesD HMD.out HDu6.out))
          go_wp2_with fail
          refine HSAME.out.mono ?_
          rintro e u7 ⟨⟨ob, rfl, hob⟩, hb⟩
          have hob2 : ob = true := by first | exact hob rfl (fun _ _ => rfl) | exact hob trivial (fun _ _ => trivial) | simpa using hob
          subst hob2
          have HDu7 := hide (HDu6.out.below hb)
          have HBu7 : Hid (Below w.heap.size w u7) := HBu6.out.trans (hb.mono HBu6.out.size)
          clear hob hb HSAME HL6
          have g1 : decide (2 * al < 3 * wo) = false := decide_eq_false (by have := K1.out; omega)
          have g2 : decide (2 * al < 3 * wt) = false := decide_eq_false (by have := K2.out; omega)
          have HGL7 := hide (liesK HDu7.out)
          haveI := Ext.ne u7
          go_wp2_with fail
          refine wp_region_ext (by kernel_rfl) (by kernel_rfl) ?_
          repeat (first | go_big_quiet_skip | (go_big_quiet_want; (go_big_quiet_op; go_big_quiet_on)))
          go_big_quiet_want
          go_big_quiet_op
          apply Exists.intro
          refine ⟨fun u => ?_, ?_⟩
          · have hc := Calls.extSame u (weigh_any g (some ⟨gb, 0, none⟩) j gc one u.W ((HGL7.out.below u.b).more u.b.size) hn8 HGB.out)
            rw [← HWO.out] at hc
            exact hc
          go_big_quiet_on
          repeat (first | go_big_quiet_skip | (go_big_quiet_want; (go_big_quiet_op; go_big_quiet_on)))
          go_big_quiet_want
          go_big_quiet_op
          apply Exists.intro
          refine ⟨fun u => ?_, ?_⟩
          · have hc := Calls.extSame u (weigh_any g (some ⟨gb, 0, none⟩) j gc two u.W ((HGL7.out.below u.b).more u.b.size) hn8 HGB.out)
            rw [← HWT.out] at hc
            exact hc
          go_big_quiet_on
          repeat (first | go_big_quiet_skip | (go_big_quiet_want; (go_big_quiet_op; go_big_quiet_on)))
          refine wpQuiet_nil ?_
          rintro _ ⟨u, rfl⟩
          have HBU : Hid (Below w.heap.size w u.W) := HBu7.out.trans (u.b.mono HBu7.out.size)
          go_wp2
          go_ret
          exact ⟨rfl, HBU.out⟩
    · have hlt : j < n := by omega
      have hlt2 : (j : Int) < n := by omega
      have hn8i : (n : Int) ≤ 8 := by omega
      obtain ⟨gj, hgj⟩ : ∃ z, z = g j := ⟨_, rfl⟩
      have hgjb := HGB.out j hlt
      rw [← hgj] at hgjb
      obtain ⟨hg1, hg3⟩ := hgjb
      obtain ⟨bo, hbo⟩ : ∃ z, z = weighF g (bits .and .i64 one two) j := ⟨_, rfl⟩
      have hbob := weighF_bound g (bits .and .i64 one two) j (fun i hi => HGB.out i (by omega))
      rw [← hbo] at hbob ⊢
      obtain ⟨hbo1, hbo2⟩ := hbob
      obtain ⟨al, hal⟩ : ∃ z, z = sumTo g j := ⟨_, rfl⟩
      have halb := sum_bd g j (fun i hi => HGB.out i (by omega))
      rw [← hal] at halb ⊢
      obtain ⟨hal1, hal2⟩ := halb
      have NS : Hid (sumTo g (j + 1) = al + gj) := by
        show sumTo g j + g j = _
        rw [← hal, ← hgj]
      obtain ⟨va', vac, rfl⟩ := own_slice HD.out.ra
      obtain ⟨vb', vbc, rfl⟩ := own_slice HD.out.rr
      obtain ⟨vd', vdc, rfl⟩ := own_slice HD.out.rd
      obtain ⟨fa, hfa⟩ : ∃ z, z = vfr jaT rr j := ⟨_, rfl⟩
      obtain ⟨fb, hfb⟩ : ∃ z, z = vfr jbT rr j := ⟨_, rfl⟩
      have HFA := hide hfa
      have HFB := hide hfb
      have HGJ := hide hgj
      have HBO := hide hbo
      have hmf2 : True := trivial
      clear hfa hfb hgj hbo hal hend
      by_cases hone : bitI one j = 1
      · by_cases htwo : bitI two j = 1
        · have hz : bitI (bits .and .i64 one two) j = 1 := (bitI_and one two j (by omega)).2 ⟨hone, htwo⟩
          have qone : bits .and .i64 ((one) / 2 ^ j) 1 = 1 := hone
          have qtwo : bits .and .i64 ((two) / 2 ^ j) 1 = 1 := htwo
          have qz : bits .and .i64 ((bits .and .i64 one two) / 2 ^ j) 1 = 1 := hz
          have NA : Hid (lstK jaT rr one (j + 1) = lstK jaT rr one j ++ [fa]) := by rw [HFA.out]; exact lstK_yes hone
          have NB : Hid (lstK jbT rr two (j + 1) = lstK jbT rr two j ++ [fb]) := by rw [HFB.out]; exact lstK_yes htwo
          have ND : Hid (idsK (bits .and .i64 one two) (j + 1) = idsK (bits .and .i64 one two) j ++ [j]) := idsK_yes hz
          have NW : Hid (weighF g (bits .and .i64 one two) (j + 1) = bo + gj) := by
            show weighF g (bits .and .i64 one two) j + (if bitI (bits .and .i64 one two) j = 1 then g j else 0) = _
            rw [← HBO.out, ← HGJ.out, if_pos hz]
          have HONE := hide hone
          have HTWO := hide htwo
          clear hone htwo hz
          have HF1 : Hid (Calls Tryz.prog 43 #[.agg #[.int .i64 3, .int .i64 0, .int .i64 (rr : Int), .int .i64 (j : Int), .int .i64 0, .bool false, .string ⟨#[106, 97, 49]⟩]] wr fun e w' => e = .returned (.string (fa)) ∧ Below wr.heap.size wr w') := by
            have hx := keepFrame_any 3 0 (rr : Int) (j : Int) 0 false jaT a1 wr (by decide) ((HG.out.below HBL.out HB.out).sent.cell 1 _ _ rfl HE1.out)
            have e : encS 3 0 (rr : Int) (j : Int) 0 false jaT = fa := HFA.out.symm
            rw [e] at hx
            exact hx
          go_wp2_with fail
          refine HF1.out.mono ?_
          rintro e w1f ⟨rfl, hb⟩
          have HD1 := hide (HD.out.below hb)
          have HB1 : Hid (Below w.heap.size w w1f) := HB.out.trans (hb.mono HB.out.size)
          clear hb HF1
          have HF2 : Hid (Calls Tryz.prog 43 #[.agg #[.int .i64 3, .int .i64 0, .int .i64 (rr : Int), .int .i64 (j : Int), .int .i64 0, .bool false, .string ⟨#[106, 98, 50]⟩]] w1f fun e w' => e = .returned (.string (fb)) ∧ Below w1f.heap.size w1f w') := by
            have hx := keepFrame_any 3 0 (rr : Int) (j : Int) 0 false jbT a1 w1f (by decide) ((HG.out.below HBL.out HB1.out).sent.cell 1 _ _ rfl HE1.out)
            have e : encS 3 0 (rr : Int) (j : Int) 0 false jbT = fb := HFB.out.symm
            rw [e] at hx
            exact hx
          go_wp2_with fail
          refine HF2.out.mono ?_
          rintro e w2f ⟨rfl, hb⟩
          have HD2 := hide (HD1.out.below hb)
          have HB2 : Hid (Below w.heap.size w w2f) := HB1.out.trans (hb.mono HB1.out.size)
          clear hb HF2
          have hkc3 : w2f.cell? ⟨kg, j, none⟩ = some (.pointer (some ⟨ks j, 0, none⟩)) := keyK HD2.out hlt
          have HS3 := hide (sign_any F rb n (ks j) j (sg) fa w2f HD2.out.ring hlt (HD2.out.key j hlt).2 (by have := (HSL.out j); omega) (fun q hq => (HD2.out.fl q hq).2))
          go_wp2_with fail
          refine HS3.out.mono ?_
          rintro e w3s ⟨rfl, hsp⟩
          obtain ⟨F3, hd, hsb⟩ := HD2.out.sign hsp
          have HD3 := hide hd
          have HB3 : Hid (Below w.heap.size w w3s) := HB2.out.trans (same_below HB2.out.size (fun q hq => (HD2.out.fl q hq).1) hsb)
          clear hsp hd hsb HS3 hkc3
          obtain ⟨y4, hy4⟩ : ∃ z, z = w3s.alloc (.cells #[.string fa] 9) := ⟨_, rfl⟩
          have hby4 : Below w3s.heap.size w3s y4 := by rw [hy4]; exact (Below.refl _ w3s).alloc (Nat.le_refl _) _
          have hqy4 : y4.heap[w3s.heap.size]? = some (.cells #[.string fa] 9 (0, 0)) := by rw [hy4]; exact heap_alloc_new w3s _
          have HDY4 := hide (HD3.out.below hby4)
          have HBY4 : Hid (Below w.heap.size w y4) := HB3.out.trans (hby4.mono HB3.out.size)
          have HY4 := hide hy4
          have HQY4 := hide hqy4
          have hlen4 : (lstK jaT rr one j).length ≤ 8 := by rw [lstK_len]; have := idsK_len one j; omega
          have HSZ4 := hide HB3.out.size
          clear hby4 hqy4 hy4
          go_wp2_with (first | (at_builtin; rw [← HY4.out]; refine wpList_append_own_at _ rfl _ _ 30 rfl w.heap.size 9 iS (.string ByteArray.empty) 1 16 Tryz.underlying30 hiS sz0 sz1 sz2 rfl (by decide) _ _ _ rfl HDY4.out.ra ⟨w3s.heap.size, 0, none⟩ 1 1 [.string fa] rfl rfl ?c1 ?c2 ?c3 ?c4 ?c5 ?_) | fail)
          case c1 =>
            intro q u hq
            match q, hq with
            | 0, hq => simp at hq; subst hq; rw [addr_add]; exact cell_of_row y4 w3s.heap.size 0 _ _ _ HQY4.out
          case c2 => first | rfl | (intro u hu; simp at hu; subst hu; rfl)
          case c3 => unfold maxLen; omega
          case c4 => omega
          case c5 => exact HBY4.out.size
          intro v4 w4a hown hgrow _ hat
          obtain ⟨vp4, vc4, rfl⟩ := own_slice hown
          have HD4 := hide (HDY4.out.appA (la' := ((lstK jaT rr one j) ++ [fa])) (by rw [List.length_append, List.map_append]; exact hown) hat (grow_same hgrow))
          have HB4 : Hid (Below w.heap.size w w4a) := HBY4.out.trans (same_below HBY4.out.size (fun q hq => (HDY4.out.ra.lt q hq.symm).1) (grow_same hgrow))
          clear hown hgrow hat
          have hkc5 : w4a.cell? ⟨kg, j, none⟩ = some (.pointer (some ⟨ks j, 0, none⟩)) := keyK HD4.out hlt
          have HS5 := hide (sign_any F3 rb n (ks j) j (signR (sg) j fa) fb w4a HD4.out.ring hlt (HD4.out.key j hlt).2 (by have := (HSL.out j); have := (signR_len (sg := sg) (k := j) (i := j) (u := fa)); omega) (fun q hq => (HD4.out.fl q hq).2))
          go_wp2_with fail
          refine HS5.out.mono ?_
          rintro e w5s ⟨rfl, hsp⟩
          obtain ⟨F5, hd, hsb⟩ := HD4.out.sign hsp
          have HD5 := hide hd
          have HB5 : Hid (Below w.heap.size w w5s) := HB4.out.trans (same_below HB4.out.size (fun q hq => (HD4.out.fl q hq).1) hsb)
          clear hsp hd hsb HS5 hkc5
          obtain ⟨y6, hy6⟩ : ∃ z, z = w5s.alloc (.cells #[.string fb] 9) := ⟨_, rfl⟩
          have hby6 : Below w5s.heap.size w5s y6 := by rw [hy6]; exact (Below.refl _ w5s).alloc (Nat.le_refl _) _
          have hqy6 : y6.heap[w5s.heap.size]? = some (.cells #[.string fb] 9 (0, 0)) := by rw [hy6]; exact heap_alloc_new w5s _
          have HDY6 := hide (HD5.out.below hby6)
          have HBY6 : Hid (Below w.heap.size w y6) := HB5.out.trans (hby6.mono HB5.out.size)
          have HY6 := hide hy6
          have HQY6 := hide hqy6
          have hlen6 : (lstK jbT rr two j).length ≤ 8 := by rw [lstK_len]; have := idsK_len two j; omega
          have HSZ6 := hide HB5.out.size
          clear hby6 hqy6 hy6
          go_wp2_with (first | (at_builtin; rw [← HY6.out]; refine wpList_append_own_at _ rfl _ _ 30 rfl w.heap.size 9 iS (.string ByteArray.empty) 1 16 Tryz.underlying30 hiS sz0 sz1 sz2 rfl (by decide) _ _ _ rfl HDY6.out.rr ⟨w5s.heap.size, 0, none⟩ 1 1 [.string fb] rfl rfl ?c1 ?c2 ?c3 ?c4 ?c5 ?_) | fail)
          case c1 =>
            intro q u hq
            match q, hq with
            | 0, hq => simp at hq; subst hq; rw [addr_add]; exact cell_of_row y6 w5s.heap.size 0 _ _ _ HQY6.out
          case c2 => first | rfl | (intro u hu; simp at hu; subst hu; rfl)
          case c3 => unfold maxLen; omega
          case c4 => omega
          case c5 => exact HBY6.out.size
          intro v6 w6a hown hgrow _ hat
          obtain ⟨vp6, vc6, rfl⟩ := own_slice hown
          have HD6 := hide (HDY6.out.appB (lb' := ((lstK jbT rr two j) ++ [fb])) (by rw [List.length_append, List.map_append]; exact hown) hat (grow_same hgrow))
          have HB6 : Hid (Below w.heap.size w w6a) := HBY6.out.trans (same_below HBY6.out.size (fun q hq => (HDY6.out.rr.lt q hq.symm).1) (grow_same hgrow))
          clear hown hgrow hat
          have hgc6 : w6a.cell? ⟨gb, j, none⟩ = some (.int .i64 gj) := by rw [HGJ.out]; exact genK HD6.out hlt
          obtain ⟨y7, hy7⟩ : ∃ z, z = w6a.alloc (.cells #[.int .i64 (j : Int)] 3) := ⟨_, rfl⟩
          have hby7 : Below w6a.heap.size w6a y7 := by rw [hy7]; exact (Below.refl _ w6a).alloc (Nat.le_refl _) _
          have hqy7 : y7.heap[w6a.heap.size]? = some (.cells #[.int .i64 (j : Int)] 3 (0, 0)) := by rw [hy7]; exact heap_alloc_new w6a _
          have HDY7 := hide (HD6.out.below hby7)
          have HBY7 : Hid (Below w.heap.size w y7) := HB6.out.trans (hby7.mono HB6.out.size)
          have HY7 := hide hy7
          have HQY7 := hide hqy7
          have hlen7 : (idsK (bits .and .i64 one two) j).length ≤ 8 := by have := idsK_len (bits .and .i64 one two) j; omega
          have HSZ7 := hide HB6.out.size
          clear hby7 hqy7 hy7
          go_wp2_with (first | (at_builtin; rw [← HY7.out]; refine wpList_append_own_at _ rfl _ _ 22 rfl w.heap.size 3 iI (.int .i64 0) 1 8 Tryz.underlying22 hiI hz0 hz1 hz2 rfl (by decide) _ _ _ rfl HDY7.out.rd ⟨w6a.heap.size, 0, none⟩ 1 1 [.int .i64 (j : Int)] rfl rfl ?c1 ?c2 ?c3 ?c4 ?c5 ?_) | fail)
          case c1 =>
            intro q u hq
            match q, hq with
            | 0, hq => simp at hq; subst hq; rw [addr_add]; exact cell_of_row y7 w6a.heap.size 0 _ _ _ HQY7.out
          case c2 => first | rfl | (intro u hu; simp at hu; subst hu; rfl)
          case c3 => unfold maxLen; omega
          case c4 => omega
          case c5 => exact HBY7.out.size
          intro v7 w7a hown hgrow _ hat
          obtain ⟨vp7, vc7, rfl⟩ := own_slice hown
          have HD7 := hide (HDY7.out.appD (ld' := ((idsK (bits .and .i64 one two) j) ++ [j])) (by rw [List.length_append]; rw [show idL ((idsK (bits .and .i64 one two) j) ++ [j]) = idL (idsK (bits .and .i64 one two) j) ++ [.int .i64 (j : Int)] by simp [idL]]; exact hown) hat (grow_same hgrow))
          have HB7 : Hid (Below w.heap.size w w7a) := HBY7.out.trans (same_below HBY7.out.size (fun q hq => (HDY7.out.rd.lt q hq.symm).1) (grow_same hgrow))
          clear hown hgrow hat
          have HSG2 : Hid (SgI rr one two (j + 1) (signR (signR (sg) j fa) j fb)) := by
            refine ⟨fun q hq hq2 => ?_, fun q hq hq2 => ?_, fun q => ?_⟩
            · rcases Nat.lt_or_ge q j with h1 | h1
              · exact signR_mem (signR_mem (HSGI.out.a q h1 hq2))
              · have e : q = j := by omega
                exact by rw [e, ← HFA.out]; exact signR_mem signR_new
            · rcases Nat.lt_or_ge q j with h1 | h1
              · exact signR_mem (signR_mem (HSGI.out.b q h1 hq2))
              · have e : q = j := by omega
                exact by rw [e, ← HFB.out]; exact signR_new
            · have h0 := HSL.out q
              have h1 := signR_len (sg := signR sg j fa) (k := j) (i := q) (u := fb); have h2 := signR_len (sg := sg) (k := j) (i := q) (u := fa); omega
          go_wp2
          go_roundw
          case rel => exact ⟨j + 1, F5, signR (signR (sg) j fa) j fb, by omega, by go_num, by rw [NS.out], by rw [NW.out], HSG2.out, by rw [NA.out, NB.out, ND.out]; exact HD7.out, HB7.out⟩
          case measure => simp [intOf]; omega
        · have hz : ¬ bitI (bits .and .i64 one two) j = 1 := fun h => htwo (by exact ((bitI_and one two j (by omega)).1 h).2)
          have qone : bits .and .i64 ((one) / 2 ^ j) 1 = 1 := hone
          have qtwo : (bits .and .i64 ((two) / 2 ^ j) 1 == 1) = false := by rw [beq_eq_false_iff_ne]; exact htwo
          have qtwon : ¬ bits .and .i64 ((two) / 2 ^ j) 1 = 1 := htwo
          have qz : (bits .and .i64 ((bits .and .i64 one two) / 2 ^ j) 1 == 1) = false := by rw [beq_eq_false_iff_ne]; exact hz
          have qzn : ¬ bits .and .i64 ((bits .and .i64 one two) / 2 ^ j) 1 = 1 := hz
          have NA : Hid (lstK jaT rr one (j + 1) = lstK jaT rr one j ++ [fa]) := by rw [HFA.out]; exact lstK_yes hone
          have NB : Hid (lstK jbT rr two (j + 1) = lstK jbT rr two j) := lstK_no htwo
          have ND : Hid (idsK (bits .and .i64 one two) (j + 1) = idsK (bits .and .i64 one two) j) := idsK_no hz
          have NW : Hid (weighF g (bits .and .i64 one two) (j + 1) = bo) := by
            show weighF g (bits .and .i64 one two) j + (if bitI (bits .and .i64 one two) j = 1 then g j else 0) = _
            rw [← HBO.out, ← HGJ.out, if_neg hz]
            omega
          have HONE := hide hone
          have HTWO := hide htwo
          clear hone htwo hz
          have HF1 : Hid (Calls Tryz.prog 43 #[.agg #[.int .i64 3, .int .i64 0, .int .i64 (rr : Int), .int .i64 (j : Int), .int .i64 0, .bool false, .string ⟨#[106, 97, 49]⟩]] wr fun e w' => e = .returned (.string (fa)) ∧ Below wr.heap.size wr w') := by
            have hx := keepFrame_any 3 0 (rr : Int) (j : Int) 0 false jaT a1 wr (by decide) ((HG.out.below HBL.out HB.out).sent.cell 1 _ _ rfl HE1.out)
            have e : encS 3 0 (rr : Int) (j : Int) 0 false jaT = fa := HFA.out.symm
            rw [e] at hx
            exact hx
          go_wp2_with fail
          refine HF1.out.mono ?_
          rintro e w1f ⟨rfl, hb⟩
          have HD1 := hide (HD.out.below hb)
          have HB1 : Hid (Below w.heap.size w w1f) := HB.out.trans (hb.mono HB.out.size)
          clear hb HF1
          have HF2 : Hid (Calls Tryz.prog 43 #[.agg #[.int .i64 3, .int .i64 0, .int .i64 (rr : Int), .int .i64 (j : Int), .int .i64 0, .bool false, .string ⟨#[106, 98, 50]⟩]] w1f fun e w' => e = .returned (.string (fb)) ∧ Below w1f.heap.size w1f w') := by
            have hx := keepFrame_any 3 0 (rr : Int) (j : Int) 0 false jbT a1 w1f (by decide) ((HG.out.below HBL.out HB1.out).sent.cell 1 _ _ rfl HE1.out)
            have e : encS 3 0 (rr : Int) (j : Int) 0 false jbT = fb := HFB.out.symm
            rw [e] at hx
            exact hx
          go_wp2_with fail
          refine HF2.out.mono ?_
          rintro e w2f ⟨rfl, hb⟩
          have HD2 := hide (HD1.out.below hb)
          have HB2 : Hid (Below w.heap.size w w2f) := HB1.out.trans (hb.mono HB1.out.size)
          clear hb HF2
          have hkc3 : w2f.cell? ⟨kg, j, none⟩ = some (.pointer (some ⟨ks j, 0, none⟩)) := keyK HD2.out hlt
          have HS3 := hide (sign_any F rb n (ks j) j (sg) fa w2f HD2.out.ring hlt (HD2.out.key j hlt).2 (by have := (HSL.out j); omega) (fun q hq => (HD2.out.fl q hq).2))
          go_wp2_with fail
          refine HS3.out.mono ?_
          rintro e w3s ⟨rfl, hsp⟩
          obtain ⟨F3, hd, hsb⟩ := HD2.out.sign hsp
          have HD3 := hide hd
          have HB3 : Hid (Below w.heap.size w w3s) := HB2.out.trans (same_below HB2.out.size (fun q hq => (HD2.out.fl q hq).1) hsb)
          clear hsp hd hsb HS3 hkc3
          obtain ⟨y4, hy4⟩ : ∃ z, z = w3s.alloc (.cells #[.string fa] 9) := ⟨_, rfl⟩
          have hby4 : Below w3s.heap.size w3s y4 := by rw [hy4]; exact (Below.refl _ w3s).alloc (Nat.le_refl _) _
          have hqy4 : y4.heap[w3s.heap.size]? = some (.cells #[.string fa] 9 (0, 0)) := by rw [hy4]; exact heap_alloc_new w3s _
          have HDY4 := hide (HD3.out.below hby4)
          have HBY4 : Hid (Below w.heap.size w y4) := HB3.out.trans (hby4.mono HB3.out.size)
          have HY4 := hide hy4
          have HQY4 := hide hqy4
          have hlen4 : (lstK jaT rr one j).length ≤ 8 := by rw [lstK_len]; have := idsK_len one j; omega
          have HSZ4 := hide HB3.out.size
          clear hby4 hqy4 hy4
          go_wp2_with (first | (at_builtin; rw [← HY4.out]; refine wpList_append_own_at _ rfl _ _ 30 rfl w.heap.size 9 iS (.string ByteArray.empty) 1 16 Tryz.underlying30 hiS sz0 sz1 sz2 rfl (by decide) _ _ _ rfl HDY4.out.ra ⟨w3s.heap.size, 0, none⟩ 1 1 [.string fa] rfl rfl ?c1 ?c2 ?c3 ?c4 ?c5 ?_) | fail)
          case c1 =>
            intro q u hq
            match q, hq with
            | 0, hq => simp at hq; subst hq; rw [addr_add]; exact cell_of_row y4 w3s.heap.size 0 _ _ _ HQY4.out
          case c2 => first | rfl | (intro u hu; simp at hu; subst hu; rfl)
          case c3 => unfold maxLen; omega
          case c4 => omega
          case c5 => exact HBY4.out.size
          intro v4 w4a hown hgrow _ hat
          obtain ⟨vp4, vc4, rfl⟩ := own_slice hown
          have HD4 := hide (HDY4.out.appA (la' := ((lstK jaT rr one j) ++ [fa])) (by rw [List.length_append, List.map_append]; exact hown) hat (grow_same hgrow))
          have HB4 : Hid (Below w.heap.size w w4a) := HBY4.out.trans (same_below HBY4.out.size (fun q hq => (HDY4.out.ra.lt q hq.symm).1) (grow_same hgrow))
          clear hown hgrow hat
          have hgc4 : w4a.cell? ⟨gb, j, none⟩ = some (.int .i64 gj) := by rw [HGJ.out]; exact genK HD4.out hlt
          have HSG2 : Hid (SgI rr one two (j + 1) (signR (sg) j fa)) := by
            refine ⟨fun q hq hq2 => ?_, fun q hq hq2 => ?_, fun q => ?_⟩
            · rcases Nat.lt_or_ge q j with h1 | h1
              · exact signR_mem (HSGI.out.a q h1 hq2)
              · have e : q = j := by omega
                exact by rw [e, ← HFA.out]; exact signR_new
            · rcases Nat.lt_or_ge q j with h1 | h1
              · exact signR_mem (HSGI.out.b q h1 hq2)
              · have e : q = j := by omega
                exact absurd (of_decide_eq_true (e ▸ hq2)) HTWO.out
            · have h0 := HSL.out q
              have h1 := signR_len (sg := sg) (k := j) (i := q) (u := fa); omega
          go_wp2
          go_roundw
          case rel => exact ⟨j + 1, F3, signR (sg) j fa, by omega, by go_num, by rw [NS.out], by rw [NW.out], HSG2.out, by rw [NA.out, NB.out, ND.out]; exact HD4.out, HB4.out⟩
          case measure => simp [intOf]; omega
      · by_cases htwo : bitI two j = 1
        · have hz : ¬ bitI (bits .and .i64 one two) j = 1 := fun h => hone (by exact ((bitI_and one two j (by omega)).1 h).1)
          have qone : (bits .and .i64 ((one) / 2 ^ j) 1 == 1) = false := by rw [beq_eq_false_iff_ne]; exact hone
          have qonen : ¬ bits .and .i64 ((one) / 2 ^ j) 1 = 1 := hone
          have qtwo : bits .and .i64 ((two) / 2 ^ j) 1 = 1 := htwo
          have qz : (bits .and .i64 ((bits .and .i64 one two) / 2 ^ j) 1 == 1) = false := by rw [beq_eq_false_iff_ne]; exact hz
          have qzn : ¬ bits .and .i64 ((bits .and .i64 one two) / 2 ^ j) 1 = 1 := hz
          have NA : Hid (lstK jaT rr one (j + 1) = lstK jaT rr one j) := lstK_no hone
          have NB : Hid (lstK jbT rr two (j + 1) = lstK jbT rr two j ++ [fb]) := by rw [HFB.out]; exact lstK_yes htwo
          have ND : Hid (idsK (bits .and .i64 one two) (j + 1) = idsK (bits .and .i64 one two) j) := idsK_no hz
          have NW : Hid (weighF g (bits .and .i64 one two) (j + 1) = bo) := by
            show weighF g (bits .and .i64 one two) j + (if bitI (bits .and .i64 one two) j = 1 then g j else 0) = _
            rw [← HBO.out, ← HGJ.out, if_neg hz]
            omega
          have HONE := hide hone
          have HTWO := hide htwo
          clear hone htwo hz
          have HF1 : Hid (Calls Tryz.prog 43 #[.agg #[.int .i64 3, .int .i64 0, .int .i64 (rr : Int), .int .i64 (j : Int), .int .i64 0, .bool false, .string ⟨#[106, 97, 49]⟩]] wr fun e w' => e = .returned (.string (fa)) ∧ Below wr.heap.size wr w') := by
            have hx := keepFrame_any 3 0 (rr : Int) (j : Int) 0 false jaT a1 wr (by decide) ((HG.out.below HBL.out HB.out).sent.cell 1 _ _ rfl HE1.out)
            have e : encS 3 0 (rr : Int) (j : Int) 0 false jaT = fa := HFA.out.symm
            rw [e] at hx
            exact hx
          go_wp2_with fail
          refine HF1.out.mono ?_
          rintro e w1f ⟨rfl, hb⟩
          have HD1 := hide (HD.out.below hb)
          have HB1 : Hid (Below w.heap.size w w1f) := HB.out.trans (hb.mono HB.out.size)
          clear hb HF1
          have HF2 : Hid (Calls Tryz.prog 43 #[.agg #[.int .i64 3, .int .i64 0, .int .i64 (rr : Int), .int .i64 (j : Int), .int .i64 0, .bool false, .string ⟨#[106, 98, 50]⟩]] w1f fun e w' => e = .returned (.string (fb)) ∧ Below w1f.heap.size w1f w') := by
            have hx := keepFrame_any 3 0 (rr : Int) (j : Int) 0 false jbT a1 w1f (by decide) ((HG.out.below HBL.out HB1.out).sent.cell 1 _ _ rfl HE1.out)
            have e : encS 3 0 (rr : Int) (j : Int) 0 false jbT = fb := HFB.out.symm
            rw [e] at hx
            exact hx
          go_wp2_with fail
          refine HF2.out.mono ?_
          rintro e w2f ⟨rfl, hb⟩
          have HD2 := hide (HD1.out.below hb)
          have HB2 : Hid (Below w.heap.size w w2f) := HB1.out.trans (hb.mono HB1.out.size)
          clear hb HF2
          have hkc3 : w2f.cell? ⟨kg, j, none⟩ = some (.pointer (some ⟨ks j, 0, none⟩)) := keyK HD2.out hlt
          have HS3 := hide (sign_any F rb n (ks j) j (sg) fb w2f HD2.out.ring hlt (HD2.out.key j hlt).2 (by have := (HSL.out j); omega) (fun q hq => (HD2.out.fl q hq).2))
          go_wp2_with fail
          refine HS3.out.mono ?_
          rintro e w3s ⟨rfl, hsp⟩
          obtain ⟨F3, hd, hsb⟩ := HD2.out.sign hsp
          have HD3 := hide hd
          have HB3 : Hid (Below w.heap.size w w3s) := HB2.out.trans (same_below HB2.out.size (fun q hq => (HD2.out.fl q hq).1) hsb)
          clear hsp hd hsb HS3 hkc3
          obtain ⟨y4, hy4⟩ : ∃ z, z = w3s.alloc (.cells #[.string fb] 9) := ⟨_, rfl⟩
          have hby4 : Below w3s.heap.size w3s y4 := by rw [hy4]; exact (Below.refl _ w3s).alloc (Nat.le_refl _) _
          have hqy4 : y4.heap[w3s.heap.size]? = some (.cells #[.string fb] 9 (0, 0)) := by rw [hy4]; exact heap_alloc_new w3s _
          have HDY4 := hide (HD3.out.below hby4)
          have HBY4 : Hid (Below w.heap.size w y4) := HB3.out.trans (hby4.mono HB3.out.size)
          have HY4 := hide hy4
          have HQY4 := hide hqy4
          have hlen4 : (lstK jbT rr two j).length ≤ 8 := by rw [lstK_len]; have := idsK_len two j; omega
          have HSZ4 := hide HB3.out.size
          clear hby4 hqy4 hy4
          go_wp2_with (first | (at_builtin; rw [← HY4.out]; refine wpList_append_own_at _ rfl _ _ 30 rfl w.heap.size 9 iS (.string ByteArray.empty) 1 16 Tryz.underlying30 hiS sz0 sz1 sz2 rfl (by decide) _ _ _ rfl HDY4.out.rr ⟨w3s.heap.size, 0, none⟩ 1 1 [.string fb] rfl rfl ?c1 ?c2 ?c3 ?c4 ?c5 ?_) | fail)
          case c1 =>
            intro q u hq
            match q, hq with
            | 0, hq => simp at hq; subst hq; rw [addr_add]; exact cell_of_row y4 w3s.heap.size 0 _ _ _ HQY4.out
          case c2 => first | rfl | (intro u hu; simp at hu; subst hu; rfl)
          case c3 => unfold maxLen; omega
          case c4 => omega
          case c5 => exact HBY4.out.size
          intro v4 w4a hown hgrow _ hat
          obtain ⟨vp4, vc4, rfl⟩ := own_slice hown
          have HD4 := hide (HDY4.out.appB (lb' := ((lstK jbT rr two j) ++ [fb])) (by rw [List.length_append, List.map_append]; exact hown) hat (grow_same hgrow))
          have HB4 : Hid (Below w.heap.size w w4a) := HBY4.out.trans (same_below HBY4.out.size (fun q hq => (HDY4.out.rr.lt q hq.symm).1) (grow_same hgrow))
          clear hown hgrow hat
          have hgc4 : w4a.cell? ⟨gb, j, none⟩ = some (.int .i64 gj) := by rw [HGJ.out]; exact genK HD4.out hlt
          have HSG2 : Hid (SgI rr one two (j + 1) (signR (sg) j fb)) := by
            refine ⟨fun q hq hq2 => ?_, fun q hq hq2 => ?_, fun q => ?_⟩
            · rcases Nat.lt_or_ge q j with h1 | h1
              · exact signR_mem (HSGI.out.a q h1 hq2)
              · have e : q = j := by omega
                exact absurd (of_decide_eq_true (e ▸ hq2)) HONE.out
            · rcases Nat.lt_or_ge q j with h1 | h1
              · exact signR_mem (HSGI.out.b q h1 hq2)
              · have e : q = j := by omega
                exact by rw [e, ← HFB.out]; exact signR_new
            · have h0 := HSL.out q
              have h1 := signR_len (sg := sg) (k := j) (i := q) (u := fb); omega
          go_wp2
          go_roundw
          case rel => exact ⟨j + 1, F3, signR (sg) j fb, by omega, by go_num, by rw [NS.out], by rw [NW.out], HSG2.out, by rw [NA.out, NB.out, ND.out]; exact HD4.out, HB4.out⟩
          case measure => simp [intOf]; omega
        · have hz : ¬ bitI (bits .and .i64 one two) j = 1 := fun h => hone (by exact ((bitI_and one two j (by omega)).1 h).1)
          have qone : (bits .and .i64 ((one) / 2 ^ j) 1 == 1) = false := by rw [beq_eq_false_iff_ne]; exact hone
          have qonen : ¬ bits .and .i64 ((one) / 2 ^ j) 1 = 1 := hone
          have qtwo : (bits .and .i64 ((two) / 2 ^ j) 1 == 1) = false := by rw [beq_eq_false_iff_ne]; exact htwo
          have qtwon : ¬ bits .and .i64 ((two) / 2 ^ j) 1 = 1 := htwo
          have qz : (bits .and .i64 ((bits .and .i64 one two) / 2 ^ j) 1 == 1) = false := by rw [beq_eq_false_iff_ne]; exact hz
          have qzn : ¬ bits .and .i64 ((bits .and .i64 one two) / 2 ^ j) 1 = 1 := hz
          have NA : Hid (lstK jaT rr one (j + 1) = lstK jaT rr one j) := lstK_no hone
          have NB : Hid (lstK jbT rr two (j + 1) = lstK jbT rr two j) := lstK_no htwo
          have ND : Hid (idsK (bits .and .i64 one two) (j + 1) = idsK (bits .and .i64 one two) j) := idsK_no hz
          have NW : Hid (weighF g (bits .and .i64 one two) (j + 1) = bo) := by
            show weighF g (bits .and .i64 one two) j + (if bitI (bits .and .i64 one two) j = 1 then g j else 0) = _
            rw [← HBO.out, ← HGJ.out, if_neg hz]
            omega
          have HONE := hide hone
          have HTWO := hide htwo
          clear hone htwo hz
          have HF1 : Hid (Calls Tryz.prog 43 #[.agg #[.int .i64 3, .int .i64 0, .int .i64 (rr : Int), .int .i64 (j : Int), .int .i64 0, .bool false, .string ⟨#[106, 97, 49]⟩]] wr fun e w' => e = .returned (.string (fa)) ∧ Below wr.heap.size wr w') := by
            have hx := keepFrame_any 3 0 (rr : Int) (j : Int) 0 false jaT a1 wr (by decide) ((HG.out.below HBL.out HB.out).sent.cell 1 _ _ rfl HE1.out)
            have e : encS 3 0 (rr : Int) (j : Int) 0 false jaT = fa := HFA.out.symm
            rw [e] at hx
            exact hx
          go_wp2_with fail
          refine HF1.out.mono ?_
          rintro e w1f ⟨rfl, hb⟩
          have HD1 := hide (HD.out.below hb)
          have HB1 : Hid (Below w.heap.size w w1f) := HB.out.trans (hb.mono HB.out.size)
          clear hb HF1
          have HF2 : Hid (Calls Tryz.prog 43 #[.agg #[.int .i64 3, .int .i64 0, .int .i64 (rr : Int), .int .i64 (j : Int), .int .i64 0, .bool false, .string ⟨#[106, 98, 50]⟩]] w1f fun e w' => e = .returned (.string (fb)) ∧ Below w1f.heap.size w1f w') := by
            have hx := keepFrame_any 3 0 (rr : Int) (j : Int) 0 false jbT a1 w1f (by decide) ((HG.out.below HBL.out HB1.out).sent.cell 1 _ _ rfl HE1.out)
            have e : encS 3 0 (rr : Int) (j : Int) 0 false jbT = fb := HFB.out.symm
            rw [e] at hx
            exact hx
          go_wp2_with fail
          refine HF2.out.mono ?_
          rintro e w2f ⟨rfl, hb⟩
          have HD2 := hide (HD1.out.below hb)
          have HB2 : Hid (Below w.heap.size w w2f) := HB1.out.trans (hb.mono HB1.out.size)
          clear hb HF2
          have hgc2 : w2f.cell? ⟨gb, j, none⟩ = some (.int .i64 gj) := by rw [HGJ.out]; exact genK HD2.out hlt
          have HSG2 : Hid (SgI rr one two (j + 1) (sg)) := by
            refine ⟨fun q hq hq2 => ?_, fun q hq hq2 => ?_, fun q => ?_⟩
            · rcases Nat.lt_or_ge q j with h1 | h1
              · exact HSGI.out.a q h1 hq2
              · have e : q = j := by omega
                exact absurd (of_decide_eq_true (e ▸ hq2)) HONE.out
            · rcases Nat.lt_or_ge q j with h1 | h1
              · exact HSGI.out.b q h1 hq2
              · have e : q = j := by omega
                exact absurd (of_decide_eq_true (e ▸ hq2)) HTWO.out
            · have h0 := HSL.out q
              omega
          go_wp2
          go_roundw
          case rel => exact ⟨j + 1, F, sg, by omega, by go_num, by rw [NS.out], by rw [NW.out], HSG2.out, by rw [NA.out, NB.out, ND.out]; exact HD2.out, HB2.out⟩
          case measure => simp [intOf]; omega

end Go.Proofs.YtcfjhbcpjpgodaaGreatDoor
