/- Proved here: what a new ring is; a key's id and ring. · Proved here: what the law of Blame has in memory while it lays its frames: a ring, its keys, and a list of frames, all apart. · Proved here: plain facts on when a message has a frame. · Proved here: what Encode answers, as a plain function of the message. · Proved here: what the document's own Encode answers at a message whose plain parts are out of range. · Proved here: what the document's own Encode answers at a proposal. · Proved here: what the document's own Encode answers at a vote. -/
import Derived.Test.YtcfjhbcpjpgodaaDoorRingSign
import Derived.Laws.AppendOwnNone
import Derived.Test.YtcfjhbcpjpgodaaDoorJ0
import Derived.Laws.BytesArg
namespace Go.Proofs.YtcfjhbcpjpgodaaDoor
open Go.RowKit

theorem Tryd.infoTexts : (Tryd.prog.info? 39).map (fun i => (i.zero, i.size, i.bytes)) = some (some (.slice none 0 0), 1, 24) := by kernel_rfl
theorem Tryd.infoKeyP : (Tryd.prog.info? 79).map (fun i => (i.zero, i.size, i.bytes)) = some (some (.pointer none), 1, 8) := by kernel_rfl

/-- A key in a block. -/
def KeyAt (w : World) (kb rb i : Nat) : Prop := w.heap[kb]? = some (.cells #[.pointer (some ⟨rb, 0, none⟩), .int .i64 (i : Int)] 104 (0, 0))

def keyL (ks : Nat → Nat) (k : Nat) : List Value := (List.range k).map fun i => .pointer (some ⟨ks i, 0, none⟩)
theorem keyL_step (ks : Nat → Nat) (k b : Nat) : keyL (fun i => if i = k then b else ks i) (k + 1) = keyL ks k ++ [.pointer (some ⟨b, 0, none⟩)] := by
  unfold keyL
  rw [List.range_succ, List.map_append]
  congr 1
  · apply List.map_congr_left
    intro i hi
    have : i < k := by simpa using hi
    simp
    omega
  · simp

set_option maxRecDepth 100000 in
set_option maxHeartbeats 1600000 in
theorem ringNew_any (n : Nat) (w : World) (hn0 : 1 ≤ n) (hn : n ≤ 100) :
    Calls Tryd.prog 25 #[.int .i64 (n : Int)] w fun e w' => ∃ (ov : Value) (kp : Option Addr) (kc : Nat) (ks : Nat → Nat), e = .returned (.tuple #[.pointer (some ⟨w.heap.size, 0, none⟩), .slice kp n kc]) ∧
      RingI (fun k => k = w.heap.size ∨ some k = ov.ownBlock) w.heap.size n (fun _ => []) w' ∧ w'.ownsRow (w.heap.size + 1) 39 1 ov n (List.replicate n (.slice none 0 0)) ∧
      w'.ownsRow (w.heap.size + 1) 79 1 (.slice kp n kc) n (keyL ks n) ∧ (∀ i, i < n → w.heap.size < ks i ∧ KeyAt w' (ks i) w.heap.size i) ∧ Below w.heap.size w w' := by
  obtain ⟨i30, hi30, hz0, hz1, hz2⟩ := info_parts Tryd.infoTexts
  obtain ⟨i45, hi45, hy0, hy1, hy2⟩ := info_parts Tryd.infoKeyP
  have HN0 := hide hn0
  have HN := hide hn
  clear hn0 hn
  go_enter Tryd.func25, Tryd.ntmps25
  go_wp2
  go_loopw [5, 6] (fun kv i wr => ∃ (k : Nat) (ov : Value) (ks : Nat → Nat), k ≤ n ∧ i = .int .i64 k ∧ wr.heap[w.heap.size]? = some (.cells #[ov] 102 (0, 0)) ∧ wr.ownsRow (w.heap.size + 1) 39 1 ov k (List.replicate k (.slice none 0 0)) ∧
    wr.ownsRow (w.heap.size + 1) 79 1 kv k (keyL ks k) ∧ (∀ i, i < k → w.heap.size < ks i ∧ KeyAt wr (ks i) w.heap.size i) ∧ Below w.heap.size w wr) (fun _ i _ => n - (intOf i).toNat)
  case atStart => exact ⟨0, .slice none 0 0, fun _ => 0, Nat.zero_le _, rfl, heap_alloc_new w _, World.ownsRow_nil _ _ _ _, World.ownsRow_nil _ _ _ _, fun i hi => by omega, (Below.refl _ w).alloc (Nat.le_refl _) _⟩
  case round =>
    obtain ⟨k, ov, ks, hk, rfl, hr, ho, hkv, hks, hb⟩ := hrel
    have HR := hide hr
    have HO := hide ho
    have HKV := hide hkv
    have HKS := hide hks
    have HB := hide hb
    have hszr : w.heap.size < wr.heap.size := row_lt0 hr
    have hc0 : wr.cell? ⟨w.heap.size, 0, none⟩ = some ov := cell_of_row wr w.heap.size 0 _ _ _ hr
    clear hr ho hkv hks hb
    by_cases hkn : k = n
    · subst hkn
      obtain ⟨kp, kc, rfl⟩ := own_slice HKV.out
      go_wp2
      go_ret2
      refine ⟨ov, kp, kc, ks, rfl, ?_, HO.out, HKV.out, HKS.out, HB.out⟩
      obtain ⟨op, oc, rfl⟩ := own_slice HO.out
      rcases HO.out.2 with ⟨_, h0⟩ | ⟨g, cap, cur, e0, hb, hg, hnc, hcm, hcs, ht⟩
      · have := HN0.out
        omega
      · cases e0
        refine ⟨g, oc, cur, fun _ => .slice none 0 0, HR.out, hg, fun i hi => ?_, fun i hi => World.ownsRow_nil _ _ _ _, fun i j _ _ _ g e => by (intro e2; cases e2), Or.inl rfl, Or.inr rfl, fun i _ g e => (by cases e)⟩
        have e1 : (cur.toList.take (k * 1))[i]? = (List.replicate k (Value.slice none 0 0))[i]? := by rw [ht]
        rw [List.getElem?_take, if_pos (by omega), List.getElem?_replicate, if_pos hi] at e1
        rw [← Array.getElem?_toList, e1]
    · have hlt : (k : Int) < n := by omega
      have hkl : k < n := by omega
      have HKN := hide hkl
      have hk100 : k ≤ 100 := by have := HN.out; omega
      have hc0a : ∀ o, (wr.alloc o).cell? ⟨w.heap.size, 0, none⟩ = some ov := fun o => (((Below.refl wr.heap.size wr).alloc (Nat.le_refl _) o).cell (p := ⟨w.heap.size, 0, none⟩) (by exact hszr)).trans hc0
      clear hkn
      go_wp2_with (first | (at_builtin; refine wpList_append_own _ rfl _ _ 99 rfl (w.heap.size + 1) 39 i30 (.slice none 0 0) 1 24 Tryd.underlying99 hi30 hz0 hz1 hz2 rfl (by decide) _ _ _ rfl (HO.out.alloc _) ⟨wr.heap.size, 0, none⟩ 1 1 [.slice none 0 0] rfl rfl ?c1 ?c2 ?c3 ?c4 ?c5 ?_) | go_in)
      case c1 =>
        intro j u hj
        match j, hj with
        | 0, hj => simp at hj; subst hj; simp [Addr.add]
      case c2 => intro u hu; simp at hu; subst hu; rfl
      case c3 => have := HN.out; unfold maxLen; omega
      case c4 => have := HN.out; omega
      case c5 => simp; omega
      intro ov' w2 hown2 hgrow2 _
      obtain ⟨op, oc, rfl⟩ := own_slice hown2
      have HO2 := hide hown2
      have HB2 : Hid (Below (w.heap.size + 1) wr w2) := ((Below.refl _ wr).alloc hszr _).grown hgrow2 (by simp; omega) (fun j hj => (HO.out.lt j hj).1)
      have HKV2 : Hid (w2.ownsRow (w.heap.size + 1) 79 1 _ k (keyL ks k)) := own_blocks (HKV.out.alloc (.cells #[.slice none 0 0] 39)) (fun g hg hlt => hgrow2.block g hlt (fun e => own_apart HKV.out HO.out (by decide) g hg e.symm))
      have HKS2 : Hid (∀ i, i < k → w.heap.size < ks i ∧ KeyAt w2 (ks i) w.heap.size i) := fun i hi => by
        obtain ⟨h1, h2⟩ := HKS.out i hi
        refine ⟨h1, ?_⟩
        unfold KeyAt at h2 ⊢
        rw [hgrow2.block (ks i) (by have := row_lt0 h2; simp; omega) (fun e => row_apart0 HO.out h2 (by decide) e), Below.heap_alloc wr _ _ (row_lt0 h2)]
        exact h2
      clear hown2 hgrow2
      have HR2 := hide ((HB2.out.block w.heap.size (by omega)).trans HR.out)
      have hc2 : w2.cell? ⟨w.heap.size, 0, none⟩ = some ov := cell_of_row w2 w.heap.size 0 _ _ _ HR2.out
      have hf2 : w2.frozen? ⟨w.heap.size, 0, none⟩ = false := by have h := HR2.out; simp [World.frozen?, h]
      have hsz2 : wr.heap.size ≤ w2.heap.size := HB2.out.size
      clear hc0 hc0a
      obtain ⟨w3, hw3⟩ : ∃ w3, w3 = w2.setCell ⟨w.heap.size, 0, none⟩ (.slice op (k + 1) oc) := ⟨_, rfl⟩
      have HON : Hid (Only w.heap.size w2 w3) := by unfold Hid; rw [hw3]; exact only_setCell _ _ _ _
      have HR3 : Hid (w3.heap[w.heap.size]? = some (.cells #[.slice op (k + 1) oc] 102 (0, 0))) := by
        unfold Hid
        have h := HR2.out
        rw [hw3]
        simp [World.setCell, Array.getElem?_modify, h]
      have HO3 := hide (own_blocks HO2.out (fun g hg _ => HON.out.block g (by have := (HO2.out.lt g hg).1; omega)))
      have HKV3 := hide (own_blocks HKV2.out (fun g hg _ => HON.out.block g (by have := (HKV2.out.lt g hg).1; omega)))
      have HKS3 : Hid (∀ i, i < k → w.heap.size < ks i ∧ KeyAt w3 (ks i) w.heap.size i) := fun i hi => by
        obtain ⟨h1, h2⟩ := HKS2.out i hi
        refine ⟨h1, ?_⟩
        unfold KeyAt at h2 ⊢
        rw [HON.out.block (ks i) (by omega)]
        exact h2
      have hsz3 : w3.heap.size = w2.heap.size := HON.out.size
      have hw4 := hw3.symm
      clear hw3
      go_wp2_with (first | (at_builtin; refine wpList_append_own _ rfl _ _ 65 rfl (w.heap.size + 1) 79 i45 (.pointer none) 1 8 Tryd.underlying65 hi45 hy0 hy1 hy2 rfl (by decide) _ _ _ rfl ((HKV3.out.alloc _).alloc _) ⟨w2.heap.size + 1, 0, none⟩ 1 1 [.pointer (some ⟨w2.heap.size, 0, none⟩)] rfl rfl ?c1 ?c2 ?c3 ?c4 ?c5 ?_) | go_in)
      case c1 =>
        intro j u hj
        match j, hj with
        | 0, hj =>
          simp at hj
          subst hj
          rw [addr_add, ← hsz3]
          have e1 : (w3.alloc (.cells #[.pointer (some ⟨w.heap.size, 0, none⟩), .int .i64 (k : Int)] 104)).heap.size = w3.heap.size + 1 := by simp
          rw [← e1]
          exact cell_of_row _ _ 0 _ _ _ (heap_alloc_new _ _)
      case c2 => intro u hu; simp at hu; subst hu; rfl
      case c3 => have := HN.out; unfold maxLen; omega
      case c4 => have := HN.out; omega
      case c5 => simp; omega
      intro kv' w5 hown5 hgrow5 _
      obtain ⟨kp, kc, rfl⟩ := own_slice hown5
      have HKV5 := hide hown5
      have hal : ∀ g, g < w3.heap.size → ((w3.alloc (.cells #[.pointer (some ⟨w.heap.size, 0, none⟩), .int .i64 (k : Int)] 104)).alloc (.cells #[.pointer (some ⟨w2.heap.size, 0, none⟩)] 79)).heap[g]? = w3.heap[g]? := fun g hg => (Below.heap_alloc _ _ g (by simp; omega)).trans (Below.heap_alloc _ _ g hg)
      have hkb : ((w3.alloc (.cells #[.pointer (some ⟨w.heap.size, 0, none⟩), .int .i64 (k : Int)] 104)).alloc (.cells #[.pointer (some ⟨w2.heap.size, 0, none⟩)] 79)).heap[w2.heap.size]? = some (.cells #[.pointer (some ⟨w.heap.size, 0, none⟩), .int .i64 (k : Int)] 104 (0, 0)) := by
        rw [← hsz3, Below.heap_alloc _ _ w3.heap.size (by simp)]
        exact heap_alloc_new w3 _
      have HKS5 : Hid (∀ i, i < k + 1 → w.heap.size < (if i = k then w2.heap.size else ks i) ∧ KeyAt w5 (if i = k then w2.heap.size else ks i) w.heap.size i) := fun i hi => by
        by_cases e : i = k
        · rw [if_pos e, e]
          refine ⟨by omega, ?_⟩
          unfold KeyAt
          rw [hgrow5.block w2.heap.size (by simp; omega) (row_apart0 ((HKV3.out.alloc _).alloc _) hkb (by decide))]
          exact hkb
        · rw [if_neg e]
          obtain ⟨h1, h2⟩ := HKS3.out i (by omega)
          refine ⟨h1, ?_⟩
          unfold KeyAt at h2 ⊢
          rw [hgrow5.block (ks i) (by have := row_lt0 h2; simp; omega) (row_apart0 HKV3.out h2 (by decide)), hal _ (row_lt0 h2)]
          exact h2
      have HO5 := hide (own_blocks HO3.out (fun g hg hlt => (hgrow5.block g (by simp; omega) (fun e => own_apart HO3.out HKV3.out (by decide) g hg e.symm)).trans (hal g hlt)))
      have HR5 : Hid (w5.heap[w.heap.size]? = some (.cells #[.slice op (k + 1) oc] 102 (0, 0))) := (hgrow5.block w.heap.size (by simp; omega) (row_apart0 HKV3.out HR3.out (by decide))).trans ((hal _ (by omega)).trans HR3.out)
      have HB5 : Hid (Below w.heap.size w w5) := by
        have h3 : Below w.heap.size w w3 := (HB.out.trans (HB2.out.mono (by omega))).trans (HON.out.below (Nat.le_refl _))
        exact ((h3.alloc (by omega) _).alloc (by simp; omega) _).grown hgrow5 (by simp; omega) (fun j hj => by have := (HKV3.out.lt j hj).1; omega)
      have HKL := hide (keyL_step ks k w2.heap.size)
      clear hown5 hgrow5 hal hkb
      go_wp2
      go_roundw
      case rel => exact ⟨k + 1, .slice op (k + 1) oc, _, HKN.out, by go_num, HR5.out, by rw [List.replicate_succ']; exact HO5.out, by rw [HKL.out]; exact HKV5.out, HKS5.out, HB5.out⟩
      case measure => have := HKN.out; simp [intOf]; omega

end Go.Proofs.YtcfjhbcpjpgodaaDoor
namespace Go.Proofs.YtcfjhbcpjpgodaaDoor
open Go.RowKit

/-- A ring with eight keys, and a list of texts: their blocks are apart. -/
structure BlI (base rb : Nat) (ks : Nat → Nat) (kv : Value) (F : Nat → Prop) (sg : Nat → List ByteArray) (v : Value) (L : List ByteArray) (w : World) : Prop where
  ring : RingI F rb 8 sg w
  flt : ∀ k, F k → base ≤ k ∧ k < w.heap.size
  keys : w.ownsRow base 79 1 kv 8 (keyL ks 8)
  keyF : ∀ g, kv.ownBlock = some g → ¬ F g
  key : ∀ i, i < 8 → KeyAt w (ks i) rb i ∧ ¬ F (ks i)
  all : w.ownsRow base 9 1 v L.length (L.map .string)
  allF : ∀ g, v.ownBlock = some g → ¬ F g

theorem BlI.below {base rb : Nat} {ks : Nat → Nat} {kv : Value} {F : Nat → Prop} {sg : Nat → List ByteArray} {v : Value} {L : List ByteArray} {w w' : World} (h : BlI base rb ks kv F sg v L w) (hb : Below w.heap.size w w') : BlI base rb ks kv F sg v L w' where
  ring := h.ring.frame (fun k hk => hb.block k (h.flt k hk).2)
  flt := fun k hk => ⟨(h.flt k hk).1, Nat.lt_of_lt_of_le (h.flt k hk).2 hb.size⟩
  keys := own_blocks h.keys (fun g _ hg => hb.block g hg)
  keyF := h.keyF
  key := fun i hi => ⟨by have h1 := (h.key i hi).1; unfold KeyAt at h1 ⊢; rw [hb.block _ (row_lt0 h1)]; exact h1, (h.key i hi).2⟩
  all := own_blocks h.all (fun g _ hg => hb.block g hg)
  allF := h.allF

theorem BlI.signed {base rb : Nat} {ks : Nat → Nat} {kv : Value} {F : Nat → Prop} {sg sg' : Nat → List ByteArray} {v : Value} {L : List ByteArray} {w w' : World} (h : BlI base rb ks kv F sg v L w) (hw : base ≤ w.heap.size) (hs : SignP F rb 8 sg' w w') : (∃ F', BlI base rb ks kv F' sg' v L w') ∧ Below base w w' := by
  obtain ⟨F', hr, hf, hlt, hsame⟩ := hs
  have hnew : ∀ k, k < w.heap.size → ¬ F k → ¬ F' k := fun k hk hn h' => by
    rcases hf k h' with h1 | h1
    · exact hn h1
    · omega
  refine ⟨⟨F', ?_⟩, ⟨hsame.os, hsame.tape, hsame.output, hsame.size, fun k hk => hsame.block k (by omega) (fun hF => by have := (h.flt k hF).1; omega)⟩⟩
  exact {
    ring := hr
    flt := fun k hk => ⟨by rcases hf k hk with h1 | h1; exact (h.flt k h1).1; omega, hlt k hk⟩
    keys := own_blocks h.keys (fun g hg hlt => hsame.block g hlt (h.keyF g hg))
    keyF := fun g hg => hnew g (h.keys.lt g hg).2 (h.keyF g hg)
    key := fun i hi => by
      obtain ⟨h1, h2⟩ := h.key i hi
      refine ⟨?_, hnew _ (row_lt0 h1) h2⟩
      unfold KeyAt at h1 ⊢
      rw [hsame.block _ (row_lt0 h1) h2]
      exact h1
    all := own_blocks h.all (fun g hg hlt => hsame.block g hlt (h.allF g hg))
    allF := fun g hg => hnew g (h.all.lt g hg).2 (h.allF g hg) }

theorem BlI.more {base rb : Nat} {ks : Nat → Nat} {kv : Value} {F : Nat → Prop} {sg : Nat → List ByteArray} {v v' : Value} {L L' : List ByteArray} {w w' : World} (h : BlI base rb ks kv F sg v L w)
    (hown : w'.ownsRow base 9 1 v' L'.length (L'.map .string)) (hg : w.grownBy w' v.ownBlock) (hat : v'.ownBlock = v.ownBlock ∨ v'.ownBlock = some w.heap.size) : BlI base rb ks kv F sg v' L' w' where
  ring := h.ring.frame (fun k hk => hg.block k (h.flt k hk).2 (fun e => h.allF k e.symm hk))
  flt := fun k hk => ⟨(h.flt k hk).1, Nat.lt_of_lt_of_le (h.flt k hk).2 hg.size⟩
  keys := own_blocks h.keys (fun g e hlt => hg.block g hlt (fun e2 => own_apart h.keys h.all (by decide) g e e2.symm))
  keyF := h.keyF
  key := fun i hi => by
    obtain ⟨h1, h2⟩ := h.key i hi
    refine ⟨?_, h2⟩
    unfold KeyAt at h1 ⊢
    rw [hg.block _ (row_lt0 h1) (row_apart0 h.all h1 (by decide))]
    exact h1
  all := hown
  allF := fun g e hF => by
    rcases hat with h1 | h1
    · exact h.allF g (h1.symm.trans e) hF
    · have e2 := h1.symm.trans e
      cases e2
      have := (h.flt _ hF).2
      omega

/-- What a new ring begins with. -/
theorem BlI.start {ks : Nat → Nat} {ov kv : Value} {w w' : World} (hr : RingI (fun k => k = w.heap.size ∨ some k = ov.ownBlock) w.heap.size 8 (fun _ => []) w') (ho : w'.ownsRow (w.heap.size + 1) 39 1 ov 8 (List.replicate 8 (.slice none 0 0)))
    (hk : w'.ownsRow (w.heap.size + 1) 79 1 kv 8 (keyL ks 8)) (hks : ∀ i, i < 8 → w.heap.size < ks i ∧ KeyAt w' (ks i) w.heap.size i) (hw : w.heap.size < w'.heap.size) :
    BlI w.heap.size w.heap.size ks kv (fun k => k = w.heap.size ∨ some k = ov.ownBlock) (fun _ => []) (.slice none 0 0) [] w' where
  ring := hr
  flt := fun k h => by
    rcases h with h | h
    · omega
    · have := ho.lt k h.symm
      omega
  keys := own_base hk (by omega)
  keyF := fun g e h => by
    rcases h with h | h
    · have := (hk.lt g e).1
      omega
    · exact own_apart hk ho (by decide) g e h.symm
  key := fun i hi => ⟨(hks i hi).2, fun h => by
    rcases h with h | h
    · have := (hks i hi).1
      omega
    · exact row_apart0 ho (hks i hi).2 (by decide) h⟩
  all := World.ownsRow_nil _ _ _ _
  allF := fun g e => by cases e

section
variable {P : Program} (w : World)
/-- append in a list of operations, with where the new row lies. -/
theorem wpList_append_at {ops : Array Oper} {rest : List Oper} {o : Oper} {a : Act} {Q : Exit → Act → World → Prop} (hgd : o.guard = none) (s x : Operand) (t : TypeId)
    (ho : o.op = .call { callee := .builtin .append, args := #[s, x], argTypes := #[t, t] })
    (base : Nat) (e : TypeId) (i : TypeInfo) (z : Value) (size bytes : Nat) (ht : P.underlying t = some (.slice e)) (hi : P.info? e = some i) (hz : i.zero = some z)
    (hsize : i.size = size) (hby : i.bytes = bytes) (hzs : z.cells.size = size) (hsz : 0 < size)
    (v : Value) (n : Nat) (xs : List Value) (hs : a.eval s = v) (hown : w.ownsRow base e size v n xs)
    (ad : Addr) (m c : Nat) (news : List Value) (hx : a.eval x = .slice (some ad) m c) (hl : news.length = m * size) (hnews : ∀ j u, news[j]? = some u → w.cell? (ad.add j) = some u) (h1 : ∀ u ∈ news, u.oneCell' = true)
    (h63 : n + m ≤ maxLen) (hbytes : (n + m) * bytes ≤ 140737488355328) (hbase : base ≤ w.heap.size)
    (h : ∀ v' w', w'.ownsRow base e size v' (n + m) (xs ++ news) → w.grownBy w' v.ownBlock → (v'.ownBlock = v.ownBlock ∨ v'.ownBlock = some w.heap.size) → wpList P ops Q rest (a.put o.dst v') w') : wpList P ops Q (o :: rest) a w :=
  wpList_plain hgd fun _ hK => wp_append_at w s x t ho base e i z size bytes ht hi hz hsize hby hzs hsz v n xs hs hown ad m c news hx hl hnews h1 h63 hbytes hbase fun v' w' h2 h3 h4 => hK _ _ (h v' w' h2 h3 h4)

/-- A list of texts, nil or not, appended. -/
theorem wpList_append_texts {ops : Array Oper} {rest : List Oper} {o : Oper} {a : Act} {Q : Exit → Act → World → Prop} (hgd : o.guard = none) (s x : Operand) (t : TypeId)
    (ho : o.op = .call { callee := .builtin .append, args := #[s, x], argTypes := #[t, t] })
    (base : Nat) (e : TypeId) (i : TypeInfo) (z : Value) (bytes : Nat) (ht : P.underlying t = some (.slice e)) (hi : P.info? e = some i) (hz : i.zero = some z)
    (hsize : i.size = 1) (hby : i.bytes = bytes) (hzs : z.cells.size = 1)
    (v : Value) (n : Nat) (xs : List Value) (hs : a.eval s = v) (hown : w.ownsRow base e 1 v n xs)
    (p : Option Addr) (m c : Nat) (fr : Nat → ByteArray) (hx : a.eval x = .slice p m c) (hp : NilOr p m c) (hl : Lies w w.heap.size p m (fun i => .string (fr i)))
    (h63 : n + m ≤ maxLen) (hbytes : (n + m) * bytes ≤ 140737488355328) (hbase : base ≤ w.heap.size)
    (h : ∀ v' w', w'.ownsRow base e 1 v' (n + m) (xs ++ (List.range m).map fun i => .string (fr i)) → w.grownBy w' v.ownBlock → (v'.ownBlock = v.ownBlock ∨ v'.ownBlock = some w.heap.size) → wpList P ops Q rest (a.put o.dst v') w') : wpList P ops Q (o :: rest) a w := by
  rcases hp with ⟨rfl, rfl, rfl⟩ | ⟨b, off, rfl⟩
  · refine wpList_plain hgd fun K hK => ?_
    have hr := run_append_owned_none (P := P) w base t o.type e i 1 ht hi v n xs hown
    unfold Oper.wp execOp
    simp only [ho, resolve, invoke, builtin, Sem.run_bind, Sem.run_pure, Result.andThen_ok, List.map_toArray, List.map_cons, List.map_nil, hs, hx, hr]
    exact hK _ _ (h v w (by simpa using hown) (World.grownBy.refl _ _) (Or.inl rfl))
  · refine wpList_append_at w hgd s x t ho base e i z 1 bytes ht hi hz hsize hby hzs (by decide) v n xs hs hown ⟨b, off, none⟩ m c ((List.range m).map fun i => .string (fr i)) hx (by simp) (fun j u hj => ?_) (fun u hu => ?_) h63 hbytes hbase h
    · have hjm : j < m := by have := (List.getElem?_eq_some_iff.1 hj).1; simpa using this
      obtain ⟨b', o', e', _, hc⟩ := hl j hjm
      cases e'
      have e2 : ((List.range m).map fun i => Value.string (fr i))[j]? = some (.string (fr j)) := by simp [hjm]
      rw [e2] at hj
      cases hj
      rw [addr_add]
      exact hc
    · simp only [List.mem_map] at hu
      obtain ⟨i, _, rfl⟩ := hu
      rfl
end

end Go.Proofs.YtcfjhbcpjpgodaaDoor
namespace Go.Proofs.YtcfjhbcpjpgodaaDoor
open Go.RowKit

/-- Has a message a frame? -/
def hasB (K H R F V : Int) (nl : Bool) (n : Nat) : Bool :=
  decide (0 ≤ H ∧ H < 12 ∧ 0 ≤ R ∧ R ≤ 255 ∧ 0 ≤ F ∧ F < 8 ∧ n ≤ 24 ∧ ((K = 1 ∧ nl = false ∧ -1 ≤ V ∧ V < R) ∨ ((K = 2 ∨ K = 3) ∧ V = 0 ∧ (nl = false ∨ n = 0))))

theorem isEmpty_size (s : ByteArray) : s.toList.isEmpty = decide (s.size = 0) := by
  rw [ByteArray.toList_eq, Bool.eq_iff_iff, List.isEmpty_iff, decide_eq_true_eq, ← List.length_eq_zero_iff]
  simp

theorem hasB_nil (K H R F : Int) (n : Nat) (h1 : 0 ≤ H) (h2 : H < 12) (h3 : 0 ≤ R) (h4 : R ≤ 255) (h5 : 0 ≤ F) (h6 : F < 8) (_h7 : n ≤ 24) (hk : K = 2 ∨ K = 3) : decide (n = 0) = hasB K H R F 0 true n := by
  unfold hasB
  rw [decide_eq_decide]
  simp
  omega

theorem ret_bool {a b : Bool} (h : a = b) : Ending.returned (.bool a) = .returned (.bool b) := by rw [h]

/-- The fifth byte of a message's frame. -/
def markOf (K V : Int) (nl : Bool) : Int := if K = 1 then V + 1 else if nl then 1 else 0

theorem ret_int {k : IntKind} {a b : Int} (h : a = b) : Ending.returned (.int k a) = .returned (.int k b) := by rw [h]

end Go.Proofs.YtcfjhbcpjpgodaaDoor
namespace Go.Proofs.YtcfjhbcpjpgodaaDoor
open Go.RowKit

/-- A message's frame. -/
def frameOf (K H R F M : Int) (s : ByteArray) : ByteArray := strOfNums [K, H, R, F, M, s.size] ++ s

/-- A new block of six bytes, as a string. -/
theorem conv6 (w : World) (o : Obj) (x0 x1 x2 x3 x4 x5 : Int) :
    (convert 90 9 (.slice (some ⟨w.heap.size + 1, 0, none⟩) 6 6)).run Tryd.prog ((w.alloc o).alloc (.cells #[.int .u8 x0, .int .u8 x1, .int .u8 x2, .int .u8 x3, .int .u8 x4, .int .u8 x5] 5)) =
      .ok (.string (strOfNums [x0, x1, x2, x3, x4, x5])) ((w.alloc o).alloc (.cells #[.int .u8 x0, .int .u8 x1, .int .u8 x2, .int .u8 x3, .int .u8 x4, .int .u8 x5] 5)) :=
  run_convert_bytes_arg _ 90 5 Tryd.underlying90 Tryd.underlying5 (w.heap.size + 1) 0 6 6 [x0, x1, x2, x3, x4, x5] rfl (fun i hi => by
    match i, hi with
    | 0, _ | 1, _ | 2, _ | 3, _ | 4, _ | 5, _ => simp) 9 Tryd.underlying9

theorem size6 (x0 x1 x2 x3 x4 x5 : Int) : (strOfNums [x0, x1, x2, x3, x4, x5]).size = 6 := strOfNums_size _

/-- What Encode answers: the frame, or nothing. -/
def encS (K H R F V : Int) (nl : Bool) (s : ByteArray) : ByteArray := if hasB K H R F V nl s.size = true then frameOf K H R F (markOf K V nl) s else ⟨#[]⟩

theorem encS_yes {K H R F V : Int} {nl : Bool} {s : ByteArray} (h : hasB K H R F V nl s.size = true) : encS K H R F V nl s = frameOf K H R F (markOf K V nl) s := by unfold encS; rw [if_pos h]
theorem encS_no {K H R F V : Int} {nl : Bool} {s : ByteArray} (h : hasB K H R F V nl s.size = false) : encS K H R F V nl s = ⟨#[]⟩ := by unfold encS; rw [if_neg (by simp [h])]

theorem ret_str {a b : ByteArray} {c d : Bool} (h : a = b) (h' : c = d) : Ending.returned (.tuple #[.string a, .bool c]) = .returned (.tuple #[.string b, .bool d]) := by rw [h, h']

theorem flag_small (V : Int) (h : V < -1) (hU : -9223372036854775808 ≤ V) : wrap64 (V + 1) < 0 := by
  unfold wrap64
  omega

theorem flag_big (V R : Int) (h3 : 0 ≤ R) (h4 : R ≤ 255) (h : R ≤ V) (hV : V ≤ 9223372036854775807) : wrap64 (V + 1) < 0 ∨ R < wrap64 (V + 1) := by
  unfold wrap64
  omega

end Go.Proofs.YtcfjhbcpjpgodaaDoor
namespace Go.Proofs.YtcfjhbcpjpgodaaDoor
open Go.RowKit

set_option maxRecDepth 100000 in
set_option maxHeartbeats 1000000 in
theorem refEncode_no (K H R F V : Int) (nl : Bool) (s : ByteArray) (w : World) (hs : s.size ≤ maxLen) (h : K < 1 ∨ 3 < K ∨ H < 0 ∨ 12 ≤ H ∨ R < 0 ∨ 255 < R ∨ F < 0 ∨ 8 ≤ F ∨ 24 < (s.size : Int)) :
    Calls Tryd.prog 11 #[.agg #[.int .i64 K, .int .i64 H, .int .i64 R, .int .i64 F, .int .i64 V, .bool nl, .string s]] w fun e w' => e = .returned (.tuple #[.string (encS K H R F V nl s), .bool (hasB K H R F V nl s.size)]) ∧ Below w.heap.size w w' := by
  unfold maxLen at hs
  by_cases c0 : K < 1
  · clear h
    go_enter Tryd.func11, Tryd.ntmps11
    go_wp2
    go_ret2
    exact ⟨ret_str (encS_no (by simp [hasB] <;> omega)).symm (by simp [hasB] <;> omega), (Below.refl _ _).alloc (Nat.le_refl _) _⟩
  by_cases c1 : 3 < K
  · clear h
    go_enter Tryd.func11, Tryd.ntmps11
    go_wp2
    go_ret2
    exact ⟨ret_str (encS_no (by simp [hasB] <;> omega)).symm (by simp [hasB] <;> omega), (Below.refl _ _).alloc (Nat.le_refl _) _⟩
  by_cases c2 : H < 0
  · clear h
    go_enter Tryd.func11, Tryd.ntmps11
    go_wp2
    go_ret2
    exact ⟨ret_str (encS_no (by simp [hasB] <;> omega)).symm (by simp [hasB] <;> omega), (Below.refl _ _).alloc (Nat.le_refl _) _⟩
  by_cases c3 : 12 ≤ H
  · clear h
    go_enter Tryd.func11, Tryd.ntmps11
    go_wp2
    go_ret2
    exact ⟨ret_str (encS_no (by simp [hasB] <;> omega)).symm (by simp [hasB] <;> omega), (Below.refl _ _).alloc (Nat.le_refl _) _⟩
  by_cases c4 : R < 0
  · clear h
    go_enter Tryd.func11, Tryd.ntmps11
    go_wp2
    go_ret2
    exact ⟨ret_str (encS_no (by simp [hasB] <;> omega)).symm (by simp [hasB] <;> omega), (Below.refl _ _).alloc (Nat.le_refl _) _⟩
  by_cases c5 : 255 < R
  · clear h
    go_enter Tryd.func11, Tryd.ntmps11
    go_wp2
    go_ret2
    exact ⟨ret_str (encS_no (by simp [hasB] <;> omega)).symm (by simp [hasB] <;> omega), (Below.refl _ _).alloc (Nat.le_refl _) _⟩
  by_cases c6 : F < 0
  · clear h
    go_enter Tryd.func11, Tryd.ntmps11
    go_wp2
    go_ret2
    exact ⟨ret_str (encS_no (by simp [hasB] <;> omega)).symm (by simp [hasB] <;> omega), (Below.refl _ _).alloc (Nat.le_refl _) _⟩
  by_cases c7 : 8 ≤ F
  · clear h
    go_enter Tryd.func11, Tryd.ntmps11
    go_wp2
    go_ret2
    exact ⟨ret_str (encS_no (by simp [hasB] <;> omega)).symm (by simp [hasB] <;> omega), (Below.refl _ _).alloc (Nat.le_refl _) _⟩
  have c8 : 24 < (s.size : Int) := by omega
  clear h
  go_enter Tryd.func11, Tryd.ntmps11
  go_wp2
  go_ret2
  exact ⟨ret_str (encS_no (by simp [hasB] <;> omega)).symm (by simp [hasB] <;> omega), (Below.refl _ _).alloc (Nat.le_refl _) _⟩

end Go.Proofs.YtcfjhbcpjpgodaaDoor
namespace Go.Proofs.YtcfjhbcpjpgodaaDoor
open Go.RowKit

set_option maxRecDepth 100000 in
set_option maxHeartbeats 2000000 in
theorem refEncode_one (H R F V : Int) (nl : Bool) (s : ByteArray) (w : World) (hs : s.size ≤ 24) (h1 : 0 ≤ H) (h2 : H < 12) (h3 : 0 ≤ R) (h4 : R ≤ 255) (h5 : 0 ≤ F) (h6 : F < 8) (hV : V ≤ 9223372036854775807) (hU : -9223372036854775808 ≤ V) :
    Calls Tryd.prog 11 #[.agg #[.int .i64 1, .int .i64 H, .int .i64 R, .int .i64 F, .int .i64 V, .bool nl, .string s]] w fun e w' => e = .returned (.tuple #[.string (encS 1 H R F V nl s), .bool (hasB 1 H R F V nl s.size)]) ∧ Below w.heap.size w w' := by
  have hf := flag_big V R h3 h4
  have hg := flag_small V
  by_cases h7 : -1 ≤ V
  · by_cases h8 : V < R
    · clear hf hV hg hU
      have h8' : V + 1 ≤ R := by omega
      have h8'' : 0 ≤ V + 1 := by omega
      have hcv := conv6 w
      have hz6 := size6
      cases nl
      · have hy : Hid (hasB 1 H R F V false s.size = true) := by unfold Hid; simp [hasB] <;> omega
        go_enter Tryd.func11, Tryd.ntmps11
        go_wp2
        go_ret2
        exact ⟨ret_str (encS_yes hy.out).symm hy.out.symm, ((Below.refl _ _).alloc (Nat.le_refl _) _).alloc (by simp) _⟩
      · clear hcv hz6
        go_enter Tryd.func11, Tryd.ntmps11
        go_wp2
        go_ret2
        exact ⟨ret_str (encS_no (by simp [hasB] <;> omega)).symm (by simp [hasB] <;> omega), (Below.refl _ _).alloc (Nat.le_refl _) _⟩
    · rcases hf (by omega) hV with hw | hw
      · clear hf hV hg hU
        cases nl
        · go_enter Tryd.func11, Tryd.ntmps11
          go_wp2
          go_ret2
          exact ⟨ret_str (encS_no (by simp [hasB] <;> omega)).symm (by simp [hasB] <;> omega), (Below.refl _ _).alloc (Nat.le_refl _) _⟩
        · go_enter Tryd.func11, Tryd.ntmps11
          go_wp2
          go_ret2
          exact ⟨ret_str (encS_no (by simp [hasB] <;> omega)).symm (by simp [hasB] <;> omega), (Below.refl _ _).alloc (Nat.le_refl _) _⟩
      · clear hf hV hg hU
        have hw' : 0 ≤ wrap64 (V + 1) := by omega
        cases nl
        · go_enter Tryd.func11, Tryd.ntmps11
          go_wp2
          go_ret2
          exact ⟨ret_str (encS_no (by simp [hasB] <;> omega)).symm (by simp [hasB] <;> omega), (Below.refl _ _).alloc (Nat.le_refl _) _⟩
        · go_enter Tryd.func11, Tryd.ntmps11
          go_wp2
          go_ret2
          exact ⟨ret_str (encS_no (by simp [hasB] <;> omega)).symm (by simp [hasB] <;> omega), (Below.refl _ _).alloc (Nat.le_refl _) _⟩
  · have hw := hg (by omega) hU
    clear hf hV hg hU
    cases nl
    · go_enter Tryd.func11, Tryd.ntmps11
      go_wp2
      go_ret2
      exact ⟨ret_str (encS_no (by simp [hasB] <;> omega)).symm (by simp [hasB] <;> omega), (Below.refl _ _).alloc (Nat.le_refl _) _⟩
    · go_enter Tryd.func11, Tryd.ntmps11
      go_wp2
      go_ret2
      exact ⟨ret_str (encS_no (by simp [hasB] <;> omega)).symm (by simp [hasB] <;> omega), (Below.refl _ _).alloc (Nat.le_refl _) _⟩

end Go.Proofs.YtcfjhbcpjpgodaaDoor
namespace Go.Proofs.YtcfjhbcpjpgodaaDoor
open Go.RowKit

set_option maxRecDepth 100000 in
set_option maxHeartbeats 2000000 in
theorem refEncode_two (K H R F V : Int) (nl : Bool) (s : ByteArray) (w : World) (hs : s.size ≤ 24) (h1 : 0 ≤ H) (h2 : H < 12) (h3 : 0 ≤ R) (h4 : R ≤ 255) (h5 : 0 ≤ F) (h6 : F < 8) (hK : K = 2 ∨ K = 3) :
    Calls Tryd.prog 11 #[.agg #[.int .i64 K, .int .i64 H, .int .i64 R, .int .i64 F, .int .i64 V, .bool nl, .string s]] w fun e w' => e = .returned (.tuple #[.string (encS K H R F V nl s), .bool (hasB K H R F V nl s.size)]) ∧ Below w.heap.size w w' := by
  have k0 : 2 ≤ K := by omega
  have k1 : K ≤ 3 := by omega
  have k2 : (K == 1) = false := by simp; omega
  have HK : Hid (K = 2 ∨ K = 3) := hK
  clear hK
  by_cases hv : V = 0
  · subst hv
    have hcv := conv6 w
    have hz6 := size6
    cases nl
    · have hy : Hid (hasB K H R F 0 false s.size = true) := by unfold Hid; simp [hasB] <;> omega
      have hm : markOf K 0 false = 0 := by unfold markOf; rw [if_neg (by omega)]; rfl
      have HM := hide hm
      clear hm
      go_enter Tryd.func11, Tryd.ntmps11
      go_wp2
      go_ret2
      exact ⟨ret_str (by rw [encS_yes hy.out, HM.out]; rfl) hy.out.symm, ((Below.refl _ _).alloc (Nat.le_refl _) _).alloc (by simp) _⟩
    · by_cases hz : s.size = 0
      · have hs0 : s = ⟨#[]⟩ := ByteArray.ext (Array.eq_empty_of_size_eq_zero hz)
        subst hs0
        have hy : Hid (hasB K H R F 0 true (⟨#[]⟩ : ByteArray).size = true) := by
          show hasB K H R F 0 true 0 = true
          rw [← hasB_nil K H R F 0 h1 h2 h3 h4 h5 h6 (by omega) HK.out]
          rfl
        have hm : markOf K 0 true = 1 := by unfold markOf; rw [if_neg (by omega)]; rfl
        have HM := hide hm
        clear hm hz
        go_enter Tryd.func11, Tryd.ntmps11
        go_wp2
        go_ret2
        exact ⟨ret_str (by rw [encS_yes hy.out, HM.out]; rfl) hy.out.symm, ((Below.refl _ _).alloc (Nat.le_refl _) _).alloc (by simp) _⟩
      · have he : s.toList.isEmpty = false := by rw [isEmpty_size]; simpa using hz
        have hy : Hid (hasB K H R F 0 true s.size = false) := by
          unfold Hid
          rw [← hasB_nil K H R F s.size h1 h2 h3 h4 h5 h6 hs HK.out]
          simpa using hz
        clear hcv hz6 hz
        go_enter Tryd.func11, Tryd.ntmps11
        go_wp2
        go_ret2
        exact ⟨ret_str (encS_no hy.out).symm hy.out.symm, (Below.refl _ _).alloc (Nat.le_refl _) _⟩
  · have hv' : (V == 0) = false := by simpa using hv
    have hy : Hid (hasB K H R F V nl s.size = false) := by
      have := HK.out
      unfold Hid
      simp [hasB] <;> omega
    cases nl
    · go_enter Tryd.func11, Tryd.ntmps11
      go_wp2
      go_ret2
      exact ⟨ret_str (encS_no hy.out).symm hy.out.symm, (Below.refl _ _).alloc (Nat.le_refl _) _⟩
    · go_enter Tryd.func11, Tryd.ntmps11
      go_wp2
      go_ret2
      exact ⟨ret_str (encS_no hy.out).symm hy.out.symm, (Below.refl _ _).alloc (Nat.le_refl _) _⟩

end Go.Proofs.YtcfjhbcpjpgodaaDoor
