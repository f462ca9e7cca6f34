/- Proved here: nodes that share a ring, in memory, with the texts that were said; what stays of them where one of them turns. -/
import Derived.Test.YtcfjhbcpjpgodaaGreatDoorJ32
import Derived.Test.YtcfjhbcpjpgodaaGreatDoorJ33
import Derived.Test.YtcfjhbcpjpgodaaGreatDoorJ34
import Derived.Test.YtcfjhbcpjpgodaaGreatDoorJ26
import Derived.Test.YtcfjhbcpjpgodaaGreatDoorBase
import Derived.Test.YtcfjhbcpjpgodaaGreatDoorTakeL
namespace Go.Proofs.YtcfjhbcpjpgodaaGreatDoor
open Go.RowKit

structure CityW (B : Nat) (es : List Addr) (m : Int) (Fs : Nat → Nat → Prop) (R : Nat → Prop) (nbs ks cbs : Nat → Nat) (rb n T : Nat) (st : Nat → NodeS) (w : World) : Prop where
 node : ∀ j, j < n → NodeW B es m (Fs j) R (nbs j) (ks j) rb (cbs j) n j (st j) w
 ok : ∀ j, j < n → NOk 0 T j 0 (st j)
 sg : ∀ j k, j < n → k < n → (st j).sg = (st k).sg
 apart : ∀ j k b, j < n → k < n → j ≠ k → Fs j b → ¬ Fs k b
 keys : ∀ j k, j < n → k < n → ¬ Fs j (ks k)
 globR : GlobR B es w

def OutB (B : Nat) (Fs : Nat → Nat → Prop) (R : Nat → Prop) (ks : Nat → Nat) (n : Nat) (w : World) (b : Nat) : Prop := B ≤ b ∧ b < w.heap.size ∧ (∀ j, j < n → ¬ Fs j b) ∧ ¬ R b ∧ ∀ k, k < n → ks k ≠ b

def updF (Fs : Nat → Nat → Prop) (j : Nat) (F' : Nat → Prop) : Nat → Nat → Prop := fun k => if k = j then F' else Fs k
def updN (f : Nat → Nat) (j v : Nat) : Nat → Nat := fun k => if k = j then v else f k
def updS (st : Nat → NodeS) (j : Nat) (s' : NodeS) : Nat → NodeS := fun k => if k = j then s' else { st k with sg := s'.sg }
theorem updF_at {Fs : Nat → Nat → Prop} {j : Nat} {F' : Nat → Prop} : updF Fs j F' j = F' := by unfold updF; rw [if_pos rfl]
theorem updF_ne {Fs : Nat → Nat → Prop} {j k : Nat} {F' : Nat → Prop} (h : k ≠ j) : updF Fs j F' k = Fs k := by unfold updF; rw [if_neg h]
theorem updN_at {f : Nat → Nat} {j v : Nat} : updN f j v j = v := by unfold updN; rw [if_pos rfl]
theorem updN_ne {f : Nat → Nat} {j k v : Nat} (h : k ≠ j) : updN f j v k = f k := by unfold updN; rw [if_neg h]
theorem updS_at {st : Nat → NodeS} {j : Nat} {s' : NodeS} : updS st j s' j = s' := by unfold updS; rw [if_pos rfl]
theorem updS_ne {st : Nat → NodeS} {j k : Nat} {s' : NodeS} (h : k ≠ j) : updS st j s' k = { st k with sg := s'.sg } := by unfold updS; rw [if_neg h]

theorem NodeI.signed {F : Nat → Prop} {nb kb cb : Nat} {s : NodeS} {w : World} (h : NodeI F nb kb cb s w) (sg' : Nat → List ByteArray) : NodeI F nb kb cb { s with sg := sg' } w := by
 obtain ⟨V, h3, h2⟩ := h
 exact ⟨V, ⟨h3.blk, h3.eds, h3.dec, h3.cert, h3.wait, h3.log, h3.ahead, h3.tims, h3.chan, h3.alog, h3.awc, h3.acc⟩, h2⟩

theorem NOk.later {S T T' i : Nat} {e : Int} {s : NodeS} (h : NOk S T i e s) (hT : T ≤ T') : NOk S T' i e s := ⟨h.dom, h.pos, h.hgt, h.rnd, h.stp, h.log, h.ahead, h.ao, h.own, h.sg, h.tb, h.tims, Nat.le_trans h.time hT, h.wait, h.waitz, h.vz, h.cert, h.out⟩

theorem CityW.step {B : Nat} {es : List Addr} {m : Int} {Fs : Nat → Nat → Prop} {R F' R' : Nat → Prop} {nbs ks cbs : Nat → Nat} {rb n T T' j cb' : Nat} {st : Nat → NodeS} {s' : NodeS} {w w' : World} (h : CityW B es m Fs R nbs ks cbs rb n T st w) (hj : j < n) (hN : NodeW B es m F' R' (nbs j) (ks j) rb cb' n j s' w') (hG : Goes (Fs j) R w F' R' w') (hok : NOk 0 T' j 0 s') (hT : T ≤ T') (hsg : SgO j (st j) s') :
 CityW B es m (updF Fs j F') R' nbs ks (updN cbs j cb') rb n T' (updS st j s') w' := by
 have hF' : ∀ b, F' b → Fs j b ∨ w.heap.size ≤ b := hG.ff
 have hR' : ∀ b, R' b → R b ∨ w.heap.size ≤ b := hG.rr
 have hkl : ∀ k, k < n → ks k < w.heap.size := fun k hk => (h.node k hk).key.lt
 have hsame : ∀ k b, k < n → k ≠ j → Fs k b → w'.heap[b]? = w.heap[b]? := fun k b hk hne hb => hG.same.block b ((h.node k hk).fl b hb).2 (fun e => e.elim (fun e => h.apart k j b hk hj hne hb e) (fun e => (h.node k hk).fr b hb e))
 refine ⟨fun k hk => ?_, fun k hk => ?_, fun a b ha hb => ?_, fun a b x ha hb hab hx hy => ?_, fun a b ha hb hx => ?_, h.globR.same fun b hb => ?_⟩
 · by_cases e : k = j
   · subst e
     rw [updF_at, updN_at, updS_at]
     exact hN
   · rw [updF_ne e, updN_ne e, updS_ne e]
     have hk1 := h.node k hk
     refine ⟨(hk1.node.frame (fun b hb => hsame k b hk e hb)).signed _, hN.ring, hk1.key.keep (hG.same.block _ (hkl k hk) (fun x => x.elim (h.keys j k hj hk) hk1.kr)), hk1.idn, fun b hb hr => ?_, hk1.kf, fun hr => ?_, fun b hb => ⟨(hk1.fl b hb).1, Nat.lt_of_lt_of_le (hk1.fl b hb).2 hG.same.size⟩, hN.rl, hN.glob, hN.bl⟩
     · rcases hR' b hr with h1 | h1
       · exact hk1.fr b hb h1
       · have := (hk1.fl b hb).2
         omega
     · rcases hR' _ hr with h1 | h1
       · exact hk1.kr h1
       · have := hkl k hk
         omega
 · by_cases e : k = j
   · subst e
     rw [updS_at]
     exact hok
   · rw [updS_ne e]
     refine ((h.ok k hk).later hT).ring ?_
     rw [hsg k e, h.sg j k hj hk]
 · have : ∀ a, (updS st j s' a).sg = s'.sg := fun a => by
    by_cases e : a = j
    · rw [e, updS_at]
    · rw [updS_ne e]
   rw [this a, this b]
 · by_cases ea : a = j
   · have eb : b ≠ j := fun e => hab (ea.trans e.symm)
     rw [ea, updF_at] at hx
     rw [updF_ne eb] at hy
     rcases hF' x hx with h1 | h1
     · exact h.apart b j x hb hj eb hy h1
     · have := ((h.node b hb).fl x hy).2
       omega
   · rw [updF_ne ea] at hx
     by_cases eb : b = j
     · rw [eb, updF_at] at hy
       rcases hF' x hy with h1 | h1
       · exact h.apart a j x ha hj ea hx h1
       · have := ((h.node a ha).fl x hx).2
         omega
     · rw [updF_ne eb] at hy
       exact h.apart a b x ha hb hab hx hy
 · by_cases ea : a = j
   · rw [ea, updF_at] at hx
     rcases hF' _ hx with h1 | h1
     · exact h.keys j b hj hb h1
     · have := hkl b hb
       omega
   · rw [updF_ne ea] at hx
     exact h.keys a b ha hb hx
 · exact hG.same.block b (Nat.lt_of_lt_of_le hb (h.node j hj).bl) (fun e => e.elim (fun e => by have := ((h.node j hj).fl b e).1; omega) (fun e => by have := ((h.node j hj).rl b e).1; omega))

theorem CityW.other {B : Nat} {es : List Addr} {m : Int} {Fs : Nat → Nat → Prop} {R : Nat → Prop} {nbs ks cbs : Nat → Nat} {rb n T : Nat} {st : Nat → NodeS} {D : Nat → Prop} {w w' : World} (h : CityW B es m Fs R nbs ks cbs rb n T st w) (hn : 0 < n) (hs : SameBut D w w') (hD : ∀ b, D b → OutB B Fs R ks n w b) :
 CityW B es m Fs R nbs ks cbs rb n T st w' := by
 refine ⟨fun k hk => ?_, h.ok, h.sg, h.apart, h.keys, h.globR.same fun b hb => hs.block b (Nat.lt_of_lt_of_le hb (h.node 0 hn).bl) (fun e => by have := (hD b e).1; omega)⟩
 have hk1 := h.node k hk
 exact ⟨hk1.node.frame (fun b hb => hs.block b (hk1.fl b hb).2 (fun e => (hD b e).2.2.1 k hk hb)), hk1.ring.frame (fun b hb => hs.block b (hk1.rl b hb).2 (fun e => (hD b e).2.2.2.1 hb)), hk1.key.keep (hs.block _ hk1.key.lt (fun e => (hD _ e).2.2.2.2 k hk rfl)), hk1.idn, hk1.fr, hk1.kf, hk1.kr, fun b hb => ⟨(hk1.fl b hb).1, Nat.lt_of_lt_of_le (hk1.fl b hb).2 hs.size⟩, fun b hb => ⟨(hk1.rl b hb).1, Nat.lt_of_lt_of_le (hk1.rl b hb).2 hs.size⟩, hk1.glob.same (fun b hb => hs.block b (Nat.lt_of_lt_of_le hb hk1.bl) (fun e => by have := (hD b e).1; omega)), Nat.le_trans hk1.bl hs.size⟩

theorem OutB.step {B : Nat} {Fs : Nat → Nat → Prop} {R F' R' : Nat → Prop} {ks : Nat → Nat} {n j b : Nat} {w w' : World} (h : OutB B Fs R ks n w b) (hG : Goes (Fs j) R w F' R' w') (hj : j < n) : OutB B (updF Fs j F') R' ks n w' b := by
 refine ⟨h.1, Nat.lt_of_lt_of_le h.2.1 hG.same.size, fun k hk hb => ?_, fun hb => ?_, h.2.2.2.2⟩
 · by_cases e : k = j
   · rw [e, updF_at] at hb
     rcases hG.ff b hb with h1 | h1
     · exact h.2.2.1 j hj h1
     · have := h.2.1
       omega
   · rw [updF_ne e] at hb
     exact h.2.2.1 k hk hb
 · rcases hG.rr b hb with h1 | h1
   · exact h.2.2.2.1 h1
   · have := h.2.1
     omega
theorem OutB.keep {B : Nat} {Fs : Nat → Nat → Prop} {R : Nat → Prop} {ks : Nat → Nat} {n b : Nat} {w w' : World} (h : OutB B Fs R ks n w b) (hs : w.heap.size ≤ w'.heap.size) : OutB B Fs R ks n w' b := ⟨h.1, Nat.lt_of_lt_of_le h.2.1 hs, h.2.2⟩

def nodeP (nbs : Nat → Nat) (n : Nat) : List Value := (List.range n).map fun j => .pointer (some ⟨nbs j, 0, none⟩)
structure CityO (B : Nat) (es : List Addr) (m : Int) (Fs : Nat → Nat → Prop) (R : Nat → Prop) (nbs ks cbs : Nat → Nat) (rb n T cc : Nat) (gv kv nv sv : Value) (st : Nat → NodeS) (said : List ByteArray) (w : World) : Prop where
 city : CityW B es m Fs R nbs ks cbs rb n T st w
 npos : 0 < n
 blk : w.heap[cc]? = some (.cells #[gv, .pointer (some ⟨rb, 0, none⟩), kv, nv, sv] 84 (0, 0))
 keyr : w.ownsRow 0 45 1 kv n (keyL ks n)
 nodes : w.ownsRow 0 26 1 nv n (nodeP nbs n)
 said : w.ownsRow 0 9 1 sv said.length (said.map .string)
 occ : OutB B Fs R ks n w cc
 okv : ∀ g, kv.ownBlock = some g → OutB B Fs R ks n w g
 onv : ∀ g, nv.ownBlock = some g → OutB B Fs R ks n w g
 osv : ∀ g, sv.ownBlock = some g → OutB B Fs R ks n w g

theorem CityO.step {B : Nat} {es : List Addr} {m : Int} {Fs : Nat → Nat → Prop} {R F' R' : Nat → Prop} {nbs ks cbs : Nat → Nat} {rb n T T' cc j cb' : Nat} {gv kv nv sv : Value} {st : Nat → NodeS} {said : List ByteArray} {s' : NodeS} {w w' : World} (h : CityO B es m Fs R nbs ks cbs rb n T cc gv kv nv sv st said w) (hj : j < n) (hN : NodeW B es m F' R' (nbs j) (ks j) rb cb' n j s' w') (hG : Goes (Fs j) R w F' R' w') (hok : NOk 0 T' j 0 s') (hT : T ≤ T') (hsg : SgO j (st j) s') :
 CityO B es m (updF Fs j F') R' nbs ks (updN cbs j cb') rb n T' cc gv kv nv sv (updS st j s') said w' := by
 have hb : ∀ b, OutB B Fs R ks n w b → w'.heap[b]? = w.heap[b]? := fun b hb => hG.same.block b hb.2.1 (fun e => e.elim (hb.2.2.1 j hj) hb.2.2.2.1)
 exact ⟨h.city.step hj hN hG hok hT hsg, h.npos, (hb cc h.occ).trans h.blk, own_blocks h.keyr fun g hg _ => hb g (h.okv g hg), own_blocks h.nodes fun g hg _ => hb g (h.onv g hg), own_blocks h.said fun g hg _ => hb g (h.osv g hg), h.occ.step hG hj, fun g hg => (h.okv g hg).step hG hj, fun g hg => (h.onv g hg).step hG hj, fun g hg => (h.osv g hg).step hG hj⟩

theorem CityO.below {B : Nat} {es : List Addr} {m : Int} {Fs : Nat → Nat → Prop} {R : Nat → Prop} {nbs ks cbs : Nat → Nat} {rb n T cc : Nat} {gv kv nv sv : Value} {st : Nat → NodeS} {said : List ByteArray} {w w' : World} (h : CityO B es m Fs R nbs ks cbs rb n T cc gv kv nv sv st said w) (hb : Below w.heap.size w w') : CityO B es m Fs R nbs ks cbs rb n T cc gv kv nv sv st said w' := by
 have hs : SameBut (fun _ => False) w w' := ⟨hb.os, hb.tape, hb.output, hb.size, fun k hk _ => hb.block k hk⟩
 exact ⟨h.city.other h.npos hs (fun _ e => e.elim), h.npos, (hb.block cc h.occ.2.1).trans h.blk, own_blocks h.keyr fun g _ hg => hb.block g hg, own_blocks h.nodes fun g _ hg => hb.block g hg, own_blocks h.said fun g _ hg => hb.block g hg, h.occ.keep hb.size, fun g hg => (h.okv g hg).keep hb.size, fun g hg => (h.onv g hg).keep hb.size, fun g hg => (h.osv g hg).keep hb.size⟩

theorem CityO.saidTurn {B : Nat} {es : List Addr} {m : Int} {Fs : Nat → Nat → Prop} {R : Nat → Prop} {nbs ks cbs : Nat → Nat} {rb n T cc : Nat} {gv kv nv sv sv' : Value} {st : Nat → NodeS} {said said' : List ByteArray} {w w' : World} (h : CityO B es m Fs R nbs ks cbs rb n T cc gv kv nv sv st said w) (hblk : w'.heap[cc]? = some (.cells #[gv, .pointer (some ⟨rb, 0, none⟩), kv, nv, sv'] 84 (0, 0))) (hown : w'.ownsRow 0 9 1 sv' said'.length (said'.map .string)) (hat : sv'.ownBlock = sv.ownBlock ∨ ∀ g, sv'.ownBlock = some g → w.heap.size ≤ g) (hs : SameBut (fun k => k = cc ∨ some k = sv.ownBlock) w w') :
 CityO B es m Fs R nbs ks cbs rb n T cc gv kv nv sv' st said' w' := by
 have hk := h.city.node 0 h.npos
 refine ⟨h.city.other h.npos hs (fun b e => e.elim (fun e => e ▸ h.occ) (fun e => h.osv b e.symm)), h.npos, hblk, own_blocks h.keyr fun g hg hl => hs.block g hl (fun e => e.elim (fun e => own_ne h.keyr h.blk (by decide) (e ▸ hg)) (fun e => own_tt h.keyr h.said (by decide) g hg e.symm)), own_blocks h.nodes fun g hg hl => hs.block g hl (fun e => e.elim (fun e => own_ne h.nodes h.blk (by decide) (e ▸ hg)) (fun e => own_tt h.nodes h.said (by decide) g hg e.symm)), hown, h.occ.keep hs.size, fun g hg => (h.okv g hg).keep hs.size, fun g hg => (h.onv g hg).keep hs.size, fun g hg => ?_⟩
 rcases hat with h1 | h1
 · exact (h.osv g (h1 ▸ hg)).keep hs.size
 · have h2 := h1 g hg
   refine ⟨Nat.le_trans hk.bl h2, (hown.lt g hg).2, fun j hj hb => ?_, fun hb => ?_, fun k hkn e => ?_⟩
   · have := ((h.city.node j hj).fl g hb).2
     omega
   · have := (hk.rl g hb).2
     omega
   · have := (h.city.node k hkn).key.lt
     omega

theorem CityO.nodeAt {B : Nat} {es : List Addr} {m : Int} {Fs : Nat → Nat → Prop} {R : Nat → Prop} {nbs ks cbs : Nat → Nat} {rb n T cc : Nat} {gv kv nv sv : Value} {st : Nat → NodeS} {said : List ByteArray} {w : World} (h : CityO B es m Fs R nbs ks cbs rb n T cc gv kv nv sv st said w) : ∃ g cap, nv = .slice (some ⟨g, 0, none⟩) n cap ∧ n ≤ maxLen ∧ g ≠ cc ∧ ∀ j, j < n → w.cell? ⟨g, j, none⟩ = some (.pointer (some ⟨nbs j, 0, none⟩)) := by
 have hp := h.npos
 rcases h.nodes.2 with ⟨_, h1⟩ | ⟨g, cap, cur, h1, hb, hg, hnc, hcm, hcs, ht⟩
 · omega
 · refine ⟨g, cap, h1, by omega, fun e => own_ne h.nodes h.blk (by decide) (by rw [h1, e]; rfl), fun j hj => ?_⟩
   rw [cell_of_row w g j _ _ _ hg]
   have e1 : (cur.toList.take (n * 1))[j]? = (nodeP nbs n)[j]? := by rw [ht]
   rw [List.getElem?_take, if_pos (by omega)] at e1
   rw [← Array.getElem?_toList, e1]
   simp [nodeP, hj]

abbrev CitS : Type := (Nat → NodeS) × List ByteArray
def Move (n : Nat) (a b : CitS) : Prop :=
 (∃ j fr, j < n ∧ fr ∈ a.2 ∧ b = (updS a.1 j ((a.1 j).receiveS n j fr), a.2)) ∨ (∃ j, j < n ∧ b = (updS a.1 j ((a.1 j).tickS j), a.2)) ∨ (∃ j t, j < n ∧ b = (updS a.1 j ((a.1 j).subS t), a.2)) ∨ ∃ j, j < n ∧ b = (updS a.1 j { a.1 j with out := [] }, a.2 ++ (a.1 j).out)
theorem Move.recv {n : Nat} (st : Nat → NodeS) (said : List ByteArray) (j : Nat) (fr : ByteArray) (hj : j < n) (hf : fr ∈ said) : Move n (st, said) (updS st j ((st j).receiveS n j fr), said) := Or.inl ⟨j, fr, hj, hf, rfl⟩
theorem Move.tick {n : Nat} (st : Nat → NodeS) (said : List ByteArray) (j : Nat) (hj : j < n) : Move n (st, said) (updS st j ((st j).tickS j), said) := Or.inr (Or.inl ⟨j, hj, rfl⟩)
theorem Move.sub {n : Nat} (st : Nat → NodeS) (said : List ByteArray) (j : Nat) (t : ByteArray) (hj : j < n) : Move n (st, said) (updS st j ((st j).subS t), said) := Or.inr (Or.inr (Or.inl ⟨j, t, hj, rfl⟩))
theorem Move.sent {n : Nat} (st : Nat → NodeS) (said : List ByteArray) (j : Nat) (hj : j < n) : Move n (st, said) (updS st j { st j with out := [] }, said ++ (st j).out) := Or.inr (Or.inr (Or.inr ⟨j, hj, rfl⟩))
def Moves (n : Nat) (a b : CitS) : Prop := ∀ C : CitS → Prop, C a → (∀ x y, C x → Move n x y → C y) → C b
theorem Moves.refl {n : Nat} (a : CitS) : Moves n a a := fun _ h _ => h
theorem Moves.more {n : Nat} (a b c : CitS) (h : Moves n a b) (h' : Move n b c) : Moves n a c := fun C ha hc => hc _ _ (h C ha hc) h'
theorem Moves.trans {n : Nat} {a b c : CitS} (h : Moves n a b) (h' : Moves n b c) : Moves n a c := fun C ha hc => h' C (h C ha hc) hc

def CityE (B : Nat) (es : List Addr) (m : Int) (rb n cc T M : Nat) (st : Nat → NodeS) (said : List ByteArray) (w : World) : Prop :=
 said.length ≤ M ∧ ∃ (Fs : Nat → Nat → Prop) (R : Nat → Prop) (nbs ks cbs : Nat → Nat) (gv kv nv sv : Value), CityO B es m Fs R nbs ks cbs rb n T cc gv kv nv sv st said w

theorem Below.of_goes {B : Nat} {F R F' R' : Nat → Prop} {w w' : World} (hG : Goes F R w F' R' w') (hF : ∀ k, F k → B ≤ k) (hR : ∀ k, R k → B ≤ k) (hB : B ≤ w.heap.size) : Below B w w' :=
 ⟨hG.same.os, hG.same.tape, hG.same.output, hG.same.size, fun k hk => hG.same.block k (Nat.lt_of_lt_of_le hk hB) (fun e => e.elim (fun e => by have := hF k e; omega) (fun e => by have := hR k e; omega))⟩
theorem NodeW.goesB {B : Nat} {es : List Addr} {m : Int} {F R F' R' : Nat → Prop} {nb kb rb cb n i : Nat} {s : NodeS} {w w' : World} (h : NodeW B es m F R nb kb rb cb n i s w) (hG : Goes F R w F' R' w') : Below B w w' := Below.of_goes hG (fun k hk => (h.fl k hk).1) (fun k hk => (h.rl k hk).1) h.bl
theorem Below.same {B : Nat} {D : Nat → Prop} {w w' : World} (hs : SameBut D w w') (hD : ∀ k, D k → B ≤ k) (hB : B ≤ w.heap.size) : Below B w w' :=
 ⟨hs.os, hs.tape, hs.output, hs.size, fun k hk => hs.block k (Nat.lt_of_lt_of_le hk hB) (fun e => by have := hD k e; omega)⟩

theorem CityO.bl {B : Nat} {es : List Addr} {m : Int} {Fs : Nat → Nat → Prop} {R : Nat → Prop} {nbs ks cbs : Nat → Nat} {rb n T cc : Nat} {gv kv nv sv : Value} {st : Nat → NodeS} {said : List ByteArray} {w : World} (h : CityO B es m Fs R nbs ks cbs rb n T cc gv kv nv sv st said w) : B ≤ w.heap.size := (h.city.node 0 h.npos).bl

theorem CityE.mono {B : Nat} {es : List Addr} {m : Int} {rb n cc T T' M M' : Nat} {st : Nat → NodeS} {said : List ByteArray} {w : World} (h : CityE B es m rb n cc T M st said w) (hT : T ≤ T') (hM : M ≤ M') : CityE B es m rb n cc T' M' st said w := by
 obtain ⟨h1, Fs, R, nbs, ks, cbs, gv, kv, nv, sv, h2⟩ := h
 exact ⟨Nat.le_trans h1 hM, Fs, R, nbs, ks, cbs, gv, kv, nv, sv, ⟨⟨h2.city.node, fun j hj => (h2.city.ok j hj).later hT, h2.city.sg, h2.city.apart, h2.city.keys, h2.city.globR⟩, h2.npos, h2.blk, h2.keyr, h2.nodes, h2.said, h2.occ, h2.okv, h2.onv, h2.osv⟩⟩

section
variable {P : Program}
theorem wp_append_texts {o : Oper} {a : Act} {w : World} {K : Act → World → Prop} {Q : Exit → Act → World → Prop} (s x : Operand) (t : TypeId)
 (ho : o.op = .call { callee := .builtin .append, args := #[s, x], argTypes := #[t, t] })
 (base : Nat) (e : TypeId) (i : TypeInfo) (z : Value) (bytes : Nat) (ht : P.underlying t = some (.slice e)) (hi : P.info? e = some i) (hz : i.zero = some z)
 (hsize : i.size = 1) (hby : i.bytes = bytes) (hzs : z.cells.size = 1)
 (v : Value) (n : Nat) (xs : List Value) (hs : a.eval s = v) (hown : w.ownsRow base e 1 v n xs)
 (p : Option Addr) (m c : Nat) (fr : Nat → ByteArray) (hx : a.eval x = .slice p m c) (hp : NilOr p m c) (hl : Lies w w.heap.size p m (fun i => .string (fr i)))
 (h63 : n + m ≤ maxLen) (hbytes : (n + m) * bytes ≤ 140737488355328) (hbase : base ≤ w.heap.size)
 (h : ∀ v' w', w'.ownsRow base e 1 v' (n + m) (xs ++ (List.range m).map fun i => .string (fr i)) → w.grownBy w' v.ownBlock → (v'.ownBlock = v.ownBlock ∨ v'.ownBlock = some w.heap.size) → K (a.put o.dst v') w') : o.wp P a w K Q := by
 rcases hp with ⟨rfl, rfl, rfl⟩ | ⟨b, off, rfl⟩
 · have hr := run_append_owned_none (P := P) w base t o.type e i 1 ht hi v n xs hown
   unfold Oper.wp execOp
   simp only [ho, resolve, invoke, builtin, Sem.run_bind, Sem.run_pure, Result.andThen_ok, List.map_toArray, List.map_cons, List.map_nil, hs, hx, hr]
   exact h v w (by simpa using hown) (World.grownBy.refl _ _) (Or.inl rfl)
 · refine wp_append_at w s x t ho base e i z 1 bytes ht hi hz hsize hby hzs (by decide) v n xs hs hown ⟨b, off, none⟩ m c ((List.range m).map fun i => .string (fr i)) hx (by simp) (fun j u hj => ?_) (fun u hu => ?_) h63 hbytes hbase h
   · have hjm : j < m := by have := (List.getElem?_eq_some_iff.1 hj).1; simpa using this
     obtain ⟨b', o', e', _, hc⟩ := hl j hjm
     cases e'
     have e2 : ((List.range m).map fun i => Value.string (fr i))[j]? = some (.string (fr j)) := by simp [hjm]
     rw [e2] at hj
     cases hj
     rw [addr_add]
     exact hc
   · simp only [List.mem_map] at hu
     obtain ⟨a, _, rfl⟩ := hu
     rfl
end

theorem Only.cellN {g a : Nat} {C D : Array Value} {t : TypeId} {v : Value} {w w' : World} (_h : Only g w w') (h1 : w.heap[g]? = some (.cells C t (0, 0))) (h2 : w'.heap[g]? = some (.cells D t (0, 0))) (hc : C[a]? = some v) (hd : D[a]? = some v) : w'.cell? ⟨g, a, none⟩ = w.cell? ⟨g, a, none⟩ := by
 rw [cell_of_row w g a _ _ _ h1, cell_of_row w' g a _ _ _ h2, hc, hd]

theorem out_step {st : Nat → NodeS} {k : Nat} (h : ∀ j, j < k → (st j).out = []) : ∀ j, j < k + 1 → (updS st k { st k with out := [] } j).out = [] := fun j hj => by
 by_cases e : j = k
 · rw [e, updS_at]
 · rw [updS_ne e]
   exact h j (by omega)

theorem hears_turn {B : Nat} {es : List Addr} {m : Int} {Fs : Nat → Nat → Prop} {R : Nat → Prop} {nbs ks cbs : Nat → Nat} {rb n T cc : Nat} {gv kv nv sv sv' : Value} {st : Nat → NodeS} {said out : List ByteArray} {X w3 w4 : World} (h : CityO B es m Fs R nbs ks cbs rb n T cc gv kv nv sv st said X)
 (hown3 : w3.ownsRow 0 9 1 sv' (said.length + out.length) (said.map .string ++ out.map .string)) (hgrow3 : X.grownBy w3 sv.ownBlock) (hat3 : sv'.ownBlock = sv.ownBlock ∨ sv'.ownBlock = some X.heap.size)
 (hq4 : w4.heap[cc]? = some (.cells #[gv, .pointer (some ⟨rb, 0, none⟩), kv, nv, sv'] 84 (0, 0))) (ho4 : Only cc w3 w4) :
 CityO B es m Fs R nbs ks cbs rb n T cc gv kv nv sv' st (said ++ out) w4 ∧ Below B X w4 := by
 have hs : SameBut (fun k => k = cc ∨ some k = sv.ownBlock) X w4 := by
  refine ⟨ho4.os.trans hgrow3.os, ho4.tape.trans hgrow3.tape, ho4.output.trans hgrow3.output, ?_, fun k hk hn => ?_⟩
  · rw [ho4.size]
    exact hgrow3.size
  · rw [ho4.block k (fun e => hn (Or.inl e)), hgrow3.block k hk (fun e => hn (Or.inr e))]
 have hv : ∀ g, sv'.ownBlock = some g → g ≠ cc := fun g hg e => by
  rcases hat3 with h1 | h1
  · exact own_ne h.said h.blk (by decide) (e ▸ (h1.symm.trans hg))
  · rw [h1] at hg
    cases hg
    have := h.occ.2.1
    omega
 refine ⟨h.saidTurn hq4 ?_ ?_ hs, Below.same hs (fun k e => e.elim (fun e => e ▸ h.occ.1) (fun e => (h.osv k e.symm).1)) h.bl⟩
 · rw [List.length_append, List.map_append]
   exact own_blocks hown3 fun g hg _ => ho4.block g (hv g hg)
 · rcases hat3 with h1 | h1
   · exact Or.inl h1
   · refine Or.inr (fun g hg => ?_)
     rw [h1] at hg
     cases hg
     exact Nat.le_refl _

set_option linter.unusedSimpArgs false in
set_option linter.unusedVariables false in
set_option maxRecDepth 100000 in
set_option maxHeartbeats 12800000 in
theorem hears_any {B : Nat} {es : List Addr} {m : Int} {rb n cc T M : Nat} {st : Nat → NodeS} {said : List ByteArray} {w : World} (h : CityE B es m rb n cc T M st said w) (hn : n ≤ 8) (hM : M + 100 * n ≤ 4000000000000) :
 Calls Tryz.prog 42 #[.pointer (some ⟨cc, 0, none⟩)] w fun e w' => e = .returned (.tuple #[]) ∧ ∃ st' said', Moves n (st, said) (st', said') ∧ CityE B es m rb n cc T (M + 100 * n) st' said' w' ∧ Below B w w' ∧ ∀ j, j < n → (st' j).out = [] := by
 obtain ⟨iW, hiW, hz0, hz1, hz2⟩ := info_parts Tryz.infoStrB
 have HH := hide h
 clear h
 go_enter Tryz.func42, Tryz.ntmps42
 go_wp2
 go_loopw [2] (fun iv wr => ∃ (k : Nat) (st1 : Nat → NodeS) (said1 : List ByteArray), k ≤ n ∧ iv = .int .i64 k ∧ Moves n (st, said) (st1, said1) ∧ CityE B es m rb n cc T (M + 100 * k) st1 said1 wr ∧ Below B w wr ∧ ∀ j, j < k → (st1 j).out = []) (fun iv _ => n - (intOf iv).toNat)
 case atStart => exact ⟨0, st, said, Nat.zero_le _, rfl, Moves.refl _, HH.out, Below.refl _ _, fun j hj => absurd hj (Nat.not_lt_zero j)⟩
 case round =>
  obtain ⟨k, st1, said1, hkn, rfl, hmv, hE, hbw, hout⟩ := hrel
  have HOUT : Hid (∀ j, j < k → (st1 j).out = []) := hout
  clear hout
  have HMV := hide hmv
  have HBW1 := hide hbw
  have HE := hide hE
  clear hmv hbw
  obtain ⟨hlen, Fs, R, nbs, ks, cbs, gv, kv, nv, sv, hO⟩ := hE
  obtain ⟨g, cap, rfl, hmax, hgc, hnp⟩ := hO.nodeAt
  have c3 : wr.cell? ⟨cc, 3, none⟩ = some (.slice (some ⟨g, 0, none⟩) n cap) := cell_of_row wr cc 3 _ _ _ hO.blk
  by_cases hend : k = n
  · have hge : ¬ (k : Int) < n := by omega
    have HEND : Hid (∃ st' said', Moves n (st, said) (st', said') ∧ CityE B es m rb n cc T (M + 100 * n) st' said' wr ∧ Below B w wr ∧ ∀ j, j < n → (st' j).out = []) := ⟨st1, said1, HMV.out, HE.out.mono (Nat.le_refl _) (by omega), HBW1.out, fun j hj => HOUT.out j (by omega)⟩
    clear hO hnp hend
    go_wp2
    first | exact bodyPost_end (v := .tuple #[]) (by simp [results, Tryz.results42]) rfl ⟨rfl, HEND.out⟩ | exact bodyPost_ret (v := .tuple #[]) (by simp [results, Tryz.results42]) rfl ⟨rfl, HEND.out⟩
  · have hk : k < n := by omega
    have hlt2 : (k : Int) < n := by omega
    have ck := hnp k hk
    obtain ⟨sp, sc, hsv⟩ := own_slice hO.said
    subst hsv
    have HO := hide hO
    have HO1 := hide hO
    have HLEN : Hid (said1.length ≤ M + 100 * k) := hlen
    have HOL : Hid ((st1 k).out.length ≤ 100) := (hO.city.ok k hk).out
    have C3 := hide c3
    have CK := hide ck
    have C4 : Hid (wr.cell? ⟨cc, 4, none⟩ = some (.slice sp said1.length sc)) := cell_of_row wr cc 4 _ _ _ hO.blk
    have HOG : Hid (OutB B Fs R ks n wr g) := hO.onv g rfl
    have HGC := hide hgc
    have HSENT : Hid (∀ W, Below wr.heap.size wr W → Calls Tryz.prog 31 #[.pointer (some ⟨nbs k, 0, none⟩)] W (SentP B es m (Fs k) R (nbs k) (ks k) rb n k (st1 k) wr)) := fun W hW => by
     refine (sent_any ((hO.city.node k hk).below hW) HOL.out).mono ?_
     rintro e w' ⟨v, cb', F', h1, h2, h3, h4, h5⟩
     exact ⟨v, cb', F', h1, own_baseC h2 hW.size, h3, (Goes.below hW).trans h4, h5⟩
    clear hO hnp hend hlen c3 ck HE
    have c3 := C3.out
    have ck := CK.out
    go_upto_region 4 with fail
    refine wp_region_held_drew (S := fun W => W.cell? ⟨cc, 3, none⟩ = some (.slice (some ⟨g, 0, none⟩) n cap) ∧ W.cell? ⟨g, k, none⟩ = some (.pointer (some ⟨nbs k, 0, none⟩))) (by kernel_rfl) ⟨C3.out, CK.out⟩ (fun hHeld => ?_)
    refine takeN [(0, some 20, pA cc 0), (1, some 21, pA cc 0), (2, some 22, pA cc 0), (3, some 23, pA cc 4), (5, some 25, pA cc 0), (6, some 26, pA cc 0), (7, some 27, pA cc 3), (8, some 28, .slice (some ⟨g, 0, none⟩) n cap), (9, some 29, .int .i64 (k : Int)), (10, some 30, pA g k), (11, some 31, pA (nbs k) 0)] _ _ hHeld (by repeat (first | exact True.intro | (refine tkc rfl rfl (Or.inl ⟨by rfl, fun x h => by have f0 : x.cell? ⟨cc, 3, none⟩ = some (.slice (some ⟨g, 0, none⟩) n cap) := h.1; have f1 : x.cell? ⟨g, k, none⟩ = some (.pointer (some ⟨nbs k, 0, none⟩)) := h.2; go_simp⟩) ?_; simp only [AP]))) ?_
    simp only [takesA, AP, pA]
    have c4d : wr.drew.cell? ⟨cc, 4, none⟩ = some (.slice sp said1.length sc) := C4.out
    refine wpAnyH_ready (rs := [4, 12]) (by kernel_rfl) (by simp) ?_
    refine AllReadyH.cons rfl (fun K hK => ?_) (AllReadyH.cons rfl (fun K hK => ?_) AllReadyH.nil)
    focus
     go_simp
     refine hK.out _ _ hHeld (fun hHeld => ?_)
     clear hK K
     try simp only [AP, AQ]
     refine rdy1 12 (fun K hK => ?_)
     go_simp
     refine (HSENT.out _ ((Below.refl _ wr).drew)).mono ?_
     rintro en X ⟨v, cb2, F2, rfl, hv, hW2, hG2, hvF⟩
     have hO2 := HO1.out.step hk hW2 hG2 (HO1.out.city.ok k hk).sent (Nat.le_refl _) (sgo_of rfl)
     obtain ⟨p5, c5, rfl, hm5, hl5⟩ := own_lies hv
     have hn5 := own_nilorC hv
     have hb2 : ∀ b, OutB B Fs R ks n wr b → X.heap[b]? = wr.heap[b]? := fun b hb => (hG2.same.block b hb.2.1 (fun e => e.elim (hb.2.2.1 k hk) hb.2.2.2.1))
     have hS2 : X.cell? ⟨cc, 3, none⟩ = some (.slice (some ⟨g, 0, none⟩) n cap) ∧ X.cell? ⟨g, k, none⟩ = some (.pointer (some ⟨nbs k, 0, none⟩)) := ⟨(World.cell?_of_block (w := wr) (a := ⟨cc, 3, none⟩) (hb2 cc HO.out.occ)).trans C3.out, (World.cell?_of_block (w := wr) (a := ⟨g, k, none⟩) (hb2 g HOG.out)).trans CK.out⟩
    rotate_left
    focus
     go_simp
     refine (HSENT.out _ ((Below.refl _ wr).drew)).mono ?_
     rintro en X ⟨v, cb2, F2, rfl, hv, hW2, hG2, hvF⟩
     have hO2 := HO1.out.step hk hW2 hG2 (HO1.out.city.ok k hk).sent (Nat.le_refl _) (sgo_of rfl)
     obtain ⟨p5, c5, rfl, hm5, hl5⟩ := own_lies hv
     have hn5 := own_nilorC hv
     have hb2 : ∀ b, OutB B Fs R ks n wr b → X.heap[b]? = wr.heap[b]? := fun b hb => (hG2.same.block b hb.2.1 (fun e => e.elim (hb.2.2.1 k hk) hb.2.2.2.1))
     have hS2 : X.cell? ⟨cc, 3, none⟩ = some (.slice (some ⟨g, 0, none⟩) n cap) ∧ X.cell? ⟨g, k, none⟩ = some (.pointer (some ⟨nbs k, 0, none⟩)) := ⟨(World.cell?_of_block (w := wr) (a := ⟨cc, 3, none⟩) (hb2 cc HO.out.occ)).trans C3.out, (World.cell?_of_block (w := wr) (a := ⟨g, k, none⟩) (hb2 g HOG.out)).trans CK.out⟩
     have c4X : X.cell? ⟨cc, 4, none⟩ = some (.slice sp said1.length sc) := cell_of_row X cc 4 _ _ _ hO2.blk
     refine hK.out _ _ hS2 (fun hHeld => ?_)
     clear hK K
     try simp only [AP, AQ]
     refine rdy1 4 (fun K hK => ?_)
     go_simp
    rotate_left
    all_goals
     refine hK.out _ _ hS2 (fun hHeld => ?_)
     clear hK K
     try simp only [AP, AQ]
     refine rdy1 13 (fun K hK => ?_)
     rw [if_pos (by rfl)]
     have hown2 := hO2.said
     refine wp_append_texts _ _ 30 rfl 0 9 iW (.string ByteArray.empty) 16 Tryz.underlying30 hiW hz0 hz1 hz2 rfl (.slice sp said1.length sc) said1.length (said1.map .string) rfl hown2 p5 (st1 k).out.length c5 (fun i => (st1 k).out.getD i ByteArray.empty) rfl hn5 hl5 (by have h1 := HLEN.out; have h2 := HOL.out; unfold maxLen; omega) (by have h1 := HLEN.out; have h2 := HOL.out; omega) (Nat.zero_le _) ?_
     intro v3 w3 hown3 hgrow3 hat3
     rw [range_getD] at hown3
     have hcc3 : w3.heap[cc]? = X.heap[cc]? := hgrow3.block cc hO2.occ.2.1 (fun e => own_ne hO2.said hO2.blk (by decide) e.symm)
     have hg3 : w3.heap[g]? = X.heap[g]? := hgrow3.block g (HOG.out.step hG2 hk).2.1 (fun e => own_tt hO2.nodes hO2.said (by decide) g rfl e.symm)
     refine hK.out _ _ ⟨(World.cell?_of_block (w := X) (a := ⟨cc, 3, none⟩) hcc3).trans hS2.1, (World.cell?_of_block (w := X) (a := ⟨g, k, none⟩) hg3).trans hS2.2⟩ (fun hHeld => ?_)
     clear hK K
     simp only [AP, AQ]
     refine takeM [(14, some 34, pA cc 0), (15, some 35, pA cc 4)] _ _ hHeld ?_
     simp only [takesA, AP, pA]
     have hblk3 := hcc3.trans hO2.blk
     have c43 : w3.cell? ⟨cc, 4, none⟩ = some (.slice sp said1.length sc) := cell_of_row w3 cc 4 _ _ _ hblk3
     have f43 : w3.frozen? ⟨cc, 4, none⟩ = false := frozen_row hblk3 4
     obtain ⟨p3, cap3, rfl⟩ := own_slice hown3
     refine rdy1 16 (fun K hK => ?_)
     go_simp
     obtain ⟨w4, hw4⟩ : ∃ z, z = (w3.setCell ⟨cc, 4, none⟩ (.slice p3 (said1.length + (st1 k).out.length) cap3)) := ⟨_, rfl⟩
     have ho4 : Only cc w3 w4 := by rw [hw4]; exact only_setCell w3 cc 4 _
     have hq4 : w4.heap[cc]? = some (.cells #[gv, .pointer (some ⟨rb, 0, none⟩), kv, .slice (some ⟨g, 0, none⟩) n cap, .slice p3 (said1.length + (st1 k).out.length) cap3] 84 (0, 0)) := by
      rw [hw4, setCell_row hblk3 4 _]
      rfl
     rw [← hw4]
     clear hw4
     refine hK.out _ _ ⟨(ho4.cellN (a := 3) hblk3 hq4 rfl rfl).trans hHeld.1, (ho4.cell (p := ⟨g, k, none⟩) HGC.out).trans hHeld.2⟩ (fun hHeld => ?_)
     clear hK K hHeld
     refine wpAnyH_done (by kernel_rfl) ?_ _
     have HEND := hide (hears_turn hO2 hown3 hgrow3 hat3 hq4 ho4)
     have HBW : Hid (Below B w w4) := HBW1.out.trans ((Below.of_goes hG2 (fun j hj => ((HO1.out.city.node k hk).fl j hj).1) (fun j hj => ((HO1.out.city.node k hk).rl j hj).1) HO1.out.bl).trans HEND.out.2)
     clear hown3 hgrow3 hat3 hq4 ho4 hblk3 c43 f43 hcc3 hg3 hown2 hS2 hb2 hO2 hW2 hG2 hvF hv hl5 hn5 hm5
     go_wp2
     go_roundw
     case rel => exact ⟨k + 1, _, _, by omega, by go_num, Moves.more _ _ _ HMV.out (Move.sent st1 said1 k hk), ⟨by rw [List.length_append]; have h1 := HLEN.out; have h2 := HOL.out; omega, _, _, _, _, _, _, _, _, _, HEND.out.1⟩, HBW.out, out_step HOUT.out⟩
     case measure => simp [intOf]; omega

def pickN (c : Int) (n : Nat) : Nat := if c < 0 then ((-(c + 1)).tmod n).toNat else (c.tmod n).toNat
theorem pickN_lt {c : Int} {n : Nat} (hn : 0 < n) : pickN c n < n := by
 unfold pickN
 split
 · have h1 := Int.tmod_lt_of_pos (-(c + 1)) (show (0 : Int) < n by omega)
   have h2 := Int.tmod_nonneg (a := -(c + 1)) (n : Int) (by omega)
   omega
 · have h1 := Int.tmod_lt_of_pos c (show (0 : Int) < n by omega)
   have h2 := Int.tmod_nonneg (a := c) (n : Int) (by omega)
   omega

theorem pick_at (c : Int) (n : Nat) (w : World) (h1 : -9223372036854775808 ≤ c) (h2 : c ≤ 9223372036854775807) (hn : 1 ≤ n) (hn2 : n ≤ 4000000000000) :
 Calls Tryz.prog 26 #[.int .i64 c, .int .i64 (n : Int)] w fun e w' => e = .returned (.int .i64 (pickN c n : Int)) ∧ w' = w := by
 have hz : ((n : Int) == 0) = false := by simp; omega
 have hz2 : ¬ (n : Int) = 0 := by omega
 by_cases hc : c < 0
 · obtain ⟨d, hd⟩ : ∃ d : Int, d = -(c + 1) := ⟨_, rfl⟩
   have hd0 : 0 ≤ d := by omega
   have hd1 : d ≤ 9223372036854775807 := by omega
   obtain ⟨r, hr⟩ : ∃ r : Nat, (r : Int) = d.tmod n := ⟨(d.tmod n).toNat, by rw [Int.toNat_of_nonneg (Int.tmod_nonneg _ hd0)]⟩
   have hrn : r < n := by have := Int.tmod_lt_of_pos d (show (0 : Int) < n by omega); omega
   have HP : Hid ((pickN c n : Int) = d.tmod n) := by unfold Hid pickN; rw [if_pos hc, ← hd, ← hr]; simp
   have HR := hide hr
   have HD := hide hd
   have HN := hide hrn
   clear hr hrn
   go_enter Tryz.func26, Tryz.ntmps26
   go_wp2
   go_ret
   refine ⟨?_, rfl⟩
   show Ending.returned (Value.int .i64 (-(c + 1).tmod (n : Int))) = _
   rw [HP.out, HD.out, Int.neg_tmod]

 · obtain ⟨r, hr⟩ : ∃ r : Nat, (r : Int) = c.tmod n := ⟨(c.tmod n).toNat, by rw [Int.toNat_of_nonneg (Int.tmod_nonneg _ (by omega))]⟩
   have hrn : r < n := by have := Int.tmod_lt_of_pos c (show (0 : Int) < n by omega); omega
   have HP : Hid ((pickN c n : Int) = c.tmod n) := by unfold Hid pickN; rw [if_neg hc, ← hr]; simp
   have HR := hide hr
   have HN := hide hrn
   clear hr hrn
   go_enter Tryz.func26, Tryz.ntmps26
   go_wp2
   go_ret
   refine ⟨?_, rfl⟩
   show Ending.returned (Value.int .i64 (c % (n : Int))) = _
   rw [HP.out, Int.tmod_eq_emod_of_nonneg (by omega)]

theorem pick_big (c : Int) (n : Nat) (w : World) (h1 : -9223372036854775808 ≤ c) (h2 : c ≤ 9223372036854775807) (hn : 1 ≤ n) (hn2 : n ≤ 4000000000000) :
 Calls Tryz.prog 26 #[.int .i64 c, .int .i64 (n : Int)] w fun e w' => e = .returned (.int .i64 (pickN c n : Int)) ∧ w' = w := pick_at c n w h1 h2 hn hn2

def CityG (B : Nat) (es : List Addr) (m : Int) (nbs ks : Nat → Nat) (gv kv nv : Value) (rb n cc T M ab : Nat) (A : Array Value) (tA : TypeId) (st : Nat → NodeS) (said : List ByteArray) (w : World) : Prop :=
 said.length ≤ M ∧ ∃ (Fs : Nat → Nat → Prop) (R : Nat → Prop) (cbs : Nat → Nat) (sv : Value), CityO B es m Fs R nbs ks cbs rb n T cc gv kv nv sv st said w ∧ OutB B Fs R ks n w ab ∧ w.heap[ab]? = some (.cells A tA (0, 0))

theorem CityG.e {B : Nat} {es : List Addr} {m : Int} {nbs ks : Nat → Nat} {gv kv nv : Value} {rb n cc T M ab : Nat} {A : Array Value} {tA : TypeId} {st : Nat → NodeS} {said : List ByteArray} {w : World} (h : CityG B es m nbs ks gv kv nv rb n cc T M ab A tA st said w) : CityE B es m rb n cc T M st said w := by
 obtain ⟨h1, Fs, R, cbs, sv, h2, _⟩ := h
 exact ⟨h1, Fs, R, nbs, ks, cbs, gv, kv, nv, sv, h2⟩
theorem CityG.below {B : Nat} {es : List Addr} {m : Int} {nbs ks : Nat → Nat} {gv kv nv : Value} {rb n cc T M ab : Nat} {A : Array Value} {tA : TypeId} {st : Nat → NodeS} {said : List ByteArray} {w w' : World} (h : CityG B es m nbs ks gv kv nv rb n cc T M ab A tA st said w) (hb : Below w.heap.size w w') : CityG B es m nbs ks gv kv nv rb n cc T M ab A tA st said w' := by
 obtain ⟨h1, Fs, R, cbs, sv, h2, h3, h4⟩ := h
 exact ⟨h1, Fs, R, cbs, sv, h2.below hb, h3.keep hb.size, (hb.block ab h3.2.1).trans h4⟩
theorem CityG.of {B : Nat} {es : List Addr} {m : Int} {Fs : Nat → Nat → Prop} {R : Nat → Prop} {nbs ks cbs : Nat → Nat} {gv kv nv sv : Value} {rb n cc T M ab : Nat} {A : Array Value} {tA : TypeId} {st : Nat → NodeS} {said : List ByteArray} {w w' : World} (h : CityO B es m Fs R nbs ks cbs rb n T cc gv kv nv sv st said w) (hM : said.length ≤ M) (hb : Below w.heap.size w w') (hab : w.heap.size ≤ ab) (hq : w'.heap[ab]? = some (.cells A tA (0, 0))) : CityG B es m nbs ks gv kv nv rb n cc T M ab A tA st said w' := by
 have h0 := h.city.node 0 h.npos
 refine ⟨hM, Fs, R, cbs, sv, h.below hb, ⟨Nat.le_trans h0.bl hab, row_lt0 hq, fun j hj hf => ?_, fun hr => ?_, fun k hk e => ?_⟩, hq⟩
 · have := ((h.city.node j hj).fl ab hf).2
   omega
 · have := (h0.rl ab hr).2
   omega
 · have := (h.city.node k hk).key.lt
   omega
theorem CityG.turn {B : Nat} {es : List Addr} {m : Int} {Fs : Nat → Nat → Prop} {R F' R' : Nat → Prop} {nbs ks cbs : Nat → Nat} {gv kv nv sv : Value} {rb n cc T T' M ab j cb' : Nat} {A : Array Value} {tA : TypeId} {st : Nat → NodeS} {said : List ByteArray} {s' : NodeS} {w w' : World} (hM : said.length ≤ M) (hO : CityO B es m Fs R nbs ks cbs rb n T cc gv kv nv sv st said w) (hab : OutB B Fs R ks n w ab) (hq : w.heap[ab]? = some (.cells A tA (0, 0))) (hj : j < n) (hN : NodeW B es m F' R' (nbs j) (ks j) rb cb' n j s' w') (hG : Goes (Fs j) R w F' R' w') (hok : NOk 0 T' j 0 s') (hT : T ≤ T') (hsg : SgO j (st j) s') :
 CityG B es m nbs ks gv kv nv rb n cc T' M ab A tA (updS st j s') said w' ∧ Below B w w' :=
 ⟨⟨hM, _, _, _, _, hO.step hj hN hG hok hT hsg, hab.step hG hj, (hG.same.block ab hab.2.1 (fun e => e.elim (hab.2.2.1 j hj) hab.2.2.2.1)).trans hq⟩, (hO.city.node j hj).goesB hG⟩

theorem CityO.nodeCell {B : Nat} {es : List Addr} {m : Int} {Fs : Nat → Nat → Prop} {R : Nat → Prop} {nbs ks cbs : Nat → Nat} {rb n T cc g cap : Nat} {gv kv sv : Value} {st : Nat → NodeS} {said : List ByteArray} {w : World} (h : CityO B es m Fs R nbs ks cbs rb n T cc gv kv (.slice (some ⟨g, 0, none⟩) n cap) sv st said w) (j : Nat) (hj : j < n) : w.cell? ⟨g, j, none⟩ = some (.pointer (some ⟨nbs j, 0, none⟩)) := by
 obtain ⟨g', cap', e, _, _, h1⟩ := h.nodeAt
 cases e
 exact h1 j hj
theorem CityO.saidAt {B : Nat} {es : List Addr} {m : Int} {Fs : Nat → Nat → Prop} {R : Nat → Prop} {nbs ks cbs : Nat → Nat} {rb n T cc : Nat} {gv kv nv sv : Value} {st : Nat → NodeS} {said : List ByteArray} {w : World} (h : CityO B es m Fs R nbs ks cbs rb n T cc gv kv nv sv st said w) : ∃ p c, sv = .slice p said.length c ∧ w.cell? ⟨cc, 4, none⟩ = some (.slice p said.length c) ∧ ∀ j, j < said.length → ∃ b, p = some ⟨b, 0, none⟩ ∧ w.cell? ⟨b, j, none⟩ = some (.string (said.getD j ByteArray.empty)) ∧ OutB B Fs R ks n w b := by
 rcases h.said.2 with ⟨e, h1⟩ | ⟨b, cap, cur, e, hb, hg, hnc, hcm, hcs, ht⟩
 · refine ⟨none, 0, by rw [e, h1], ?_, fun j hj => by omega⟩
   have h2 : w.cell? ⟨cc, 4, none⟩ = some sv := cell_of_row w cc 4 _ _ _ h.blk
   rw [h2, e, h1]
 · refine ⟨some ⟨b, 0, none⟩, cap, e, ?_, fun j hj => ⟨b, rfl, ?_, h.osv b (by rw [e]; rfl)⟩⟩
   · have h2 : w.cell? ⟨cc, 4, none⟩ = some sv := cell_of_row w cc 4 _ _ _ h.blk
     rw [h2, e]
   · rw [cell_of_row w b j _ _ _ hg]
     have e1 : (cur.toList.take (said.length * 1))[j]? = (said.map Value.string)[j]? := by rw [ht]
     rw [List.getElem?_take, if_pos (by omega)] at e1
     rw [← Array.getElem?_toList, e1, List.getElem?_map]
     simp only [List.getD_eq_getElem?_getD, List.getElem?_eq_getElem hj]
     rfl

structure ActV where
 k : Int
 t : Int
 f : Int
 c : Int
 m : MsgV
 r : ByteArray
def ActV.cells (a : ActV) : Array Value := #[.int .i64 a.k, .int .i64 a.t, .int .i64 a.f, .int .i64 a.c, .int .i64 a.m.k, .int .i64 a.m.h, .int .i64 a.m.r, .int .i64 a.m.f, .int .i64 a.m.v, .bool a.m.nl, .string a.m.s, .string a.r]
def in64 (c : Int) : Prop := -9223372036854775808 ≤ c ∧ c ≤ 9223372036854775807
structure ActOk (a : ActV) : Prop where
 k : in64 a.k
 t : in64 a.t
 f : in64 a.f
 c : in64 a.c
 mf : in64 a.m.f
 ms : a.m.s.size ≤ 4000000000000

end Go.Proofs.YtcfjhbcpjpgodaaGreatDoor
