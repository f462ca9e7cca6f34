/- Proved here: what a new ring is; a key's id and ring. -/
import Derived.Test.YtcfjhbcpjpgodaaDoorRingSign
namespace Go.Proofs.YtcfjhbcpjpgodaaDoor
open Go.RowKit

theorem Tryd.infoTexts : (Tryd.prog.info? 39).map (fun i => (i.zero, i.size, i.bytes)) = some (some (.slice none 0 0), 1, 24) := by kernel_rfl
theorem Tryd.infoKeyP : (Tryd.prog.info? 79).map (fun i => (i.zero, i.size, i.bytes)) = some (some (.pointer none), 1, 8) := by kernel_rfl

/-- A key in a block. -/
def KeyAt (w : World) (kb rb i : Nat) : Prop := w.heap[kb]? = some (.cells #[.pointer (some ⟨rb, 0, none⟩), .int .i64 (i : Int)] 104 (0, 0))

def keyL (ks : Nat → Nat) (k : Nat) : List Value := (List.range k).map fun i => .pointer (some ⟨ks i, 0, none⟩)
theorem keyL_step (ks : Nat → Nat) (k b : Nat) : keyL (fun i => if i = k then b else ks i) (k + 1) = keyL ks k ++ [.pointer (some ⟨b, 0, none⟩)] := by
  unfold keyL
  rw [List.range_succ, List.map_append]
  congr 1
  · apply List.map_congr_left
    intro i hi
    have : i < k := by simpa using hi
    simp
    omega
  · simp

set_option maxRecDepth 100000 in
set_option maxHeartbeats 1600000 in
theorem ringNew_any (n : Nat) (w : World) (hn0 : 1 ≤ n) (hn : n ≤ 100) :
    Calls Tryd.prog 25 #[.int .i64 (n : Int)] w fun e w' => ∃ (ov : Value) (kp : Option Addr) (kc : Nat) (ks : Nat → Nat), e = .returned (.tuple #[.pointer (some ⟨w.heap.size, 0, none⟩), .slice kp n kc]) ∧
      RingI (fun k => k = w.heap.size ∨ some k = ov.ownBlock) w.heap.size n (fun _ => []) w' ∧ w'.ownsRow (w.heap.size + 1) 39 1 ov n (List.replicate n (.slice none 0 0)) ∧
      w'.ownsRow (w.heap.size + 1) 79 1 (.slice kp n kc) n (keyL ks n) ∧ (∀ i, i < n → w.heap.size < ks i ∧ KeyAt w' (ks i) w.heap.size i) ∧ Below w.heap.size w w' := by
  obtain ⟨i30, hi30, hz0, hz1, hz2⟩ := info_parts Tryd.infoTexts
  obtain ⟨i45, hi45, hy0, hy1, hy2⟩ := info_parts Tryd.infoKeyP
  have HN0 := hide hn0
  have HN := hide hn
  clear hn0 hn
  go_enter Tryd.func25, Tryd.ntmps25
  go_wp2
  go_loopw [5, 6] (fun kv i wr => ∃ (k : Nat) (ov : Value) (ks : Nat → Nat), k ≤ n ∧ i = .int .i64 k ∧ wr.heap[w.heap.size]? = some (.cells #[ov] 102 (0, 0)) ∧ wr.ownsRow (w.heap.size + 1) 39 1 ov k (List.replicate k (.slice none 0 0)) ∧
    wr.ownsRow (w.heap.size + 1) 79 1 kv k (keyL ks k) ∧ (∀ i, i < k → w.heap.size < ks i ∧ KeyAt wr (ks i) w.heap.size i) ∧ Below w.heap.size w wr) (fun _ i _ => n - (intOf i).toNat)
  case atStart => exact ⟨0, .slice none 0 0, fun _ => 0, Nat.zero_le _, rfl, heap_alloc_new w _, World.ownsRow_nil _ _ _ _, World.ownsRow_nil _ _ _ _, fun i hi => by omega, (Below.refl _ w).alloc (Nat.le_refl _) _⟩
  case round =>
    obtain ⟨k, ov, ks, hk, rfl, hr, ho, hkv, hks, hb⟩ := hrel
    have HR := hide hr
    have HO := hide ho
    have HKV := hide hkv
    have HKS := hide hks
    have HB := hide hb
    have hszr : w.heap.size < wr.heap.size := row_lt0 hr
    have hc0 : wr.cell? ⟨w.heap.size, 0, none⟩ = some ov := cell_of_row wr w.heap.size 0 _ _ _ hr
    clear hr ho hkv hks hb
    by_cases hkn : k = n
    · subst hkn
      obtain ⟨kp, kc, rfl⟩ := own_slice HKV.out
      go_wp2
      go_ret2
      refine ⟨ov, kp, kc, ks, rfl, ?_, HO.out, HKV.out, HKS.out, HB.out⟩
      obtain ⟨op, oc, rfl⟩ := own_slice HO.out
      rcases HO.out.2 with ⟨_, h0⟩ | ⟨g, cap, cur, e0, hb, hg, hnc, hcm, hcs, ht⟩
      · have := HN0.out
        omega
      · cases e0
        refine ⟨g, oc, cur, fun _ => .slice none 0 0, HR.out, hg, fun i hi => ?_, fun i hi => World.ownsRow_nil _ _ _ _, fun i j _ _ _ g e => by (intro e2; cases e2), Or.inl rfl, Or.inr rfl, fun i _ g e => (by cases e)⟩
        have e1 : (cur.toList.take (k * 1))[i]? = (List.replicate k (Value.slice none 0 0))[i]? := by rw [ht]
        rw [List.getElem?_take, if_pos (by omega), List.getElem?_replicate, if_pos hi] at e1
        rw [← Array.getElem?_toList, e1]
    · have hlt : (k : Int) < n := by omega
      have hkl : k < n := by omega
      have HKN := hide hkl
      have hk100 : k ≤ 100 := by have := HN.out; omega
      have hc0a : ∀ o, (wr.alloc o).cell? ⟨w.heap.size, 0, none⟩ = some ov := fun o => (((Below.refl wr.heap.size wr).alloc (Nat.le_refl _) o).cell (p := ⟨w.heap.size, 0, none⟩) (by exact hszr)).trans hc0
      clear hkn
      go_wp2_with (first | (at_builtin; refine wpList_append_own _ rfl _ _ 99 rfl (w.heap.size + 1) 39 i30 (.slice none 0 0) 1 24 Tryd.underlying99 hi30 hz0 hz1 hz2 rfl (by decide) _ _ _ rfl (HO.out.alloc _) ⟨wr.heap.size, 0, none⟩ 1 1 [.slice none 0 0] rfl rfl ?c1 ?c2 ?c3 ?c4 ?c5 ?_) | go_in)
      case c1 =>
        intro j u hj
        match j, hj with
        | 0, hj => simp at hj; subst hj; simp [Addr.add]
      case c2 => intro u hu; simp at hu; subst hu; rfl
      case c3 => have := HN.out; unfold maxLen; omega
      case c4 => have := HN.out; omega
      case c5 => simp; omega
      intro ov' w2 hown2 hgrow2 _
      obtain ⟨op, oc, rfl⟩ := own_slice hown2
      have HO2 := hide hown2
      have HB2 : Hid (Below (w.heap.size + 1) wr w2) := ((Below.refl _ wr).alloc hszr _).grown hgrow2 (by simp; omega) (fun j hj => (HO.out.lt j hj).1)
      have HKV2 : Hid (w2.ownsRow (w.heap.size + 1) 79 1 _ k (keyL ks k)) := own_blocks (HKV.out.alloc (.cells #[.slice none 0 0] 39)) (fun g hg hlt => hgrow2.block g hlt (fun e => own_apart HKV.out HO.out (by decide) g hg e.symm))
      have HKS2 : Hid (∀ i, i < k → w.heap.size < ks i ∧ KeyAt w2 (ks i) w.heap.size i) := fun i hi => by
        obtain ⟨h1, h2⟩ := HKS.out i hi
        refine ⟨h1, ?_⟩
        unfold KeyAt at h2 ⊢
        rw [hgrow2.block (ks i) (by have := row_lt0 h2; simp; omega) (fun e => row_apart0 HO.out h2 (by decide) e), Below.heap_alloc wr _ _ (row_lt0 h2)]
        exact h2
      clear hown2 hgrow2
      have HR2 := hide ((HB2.out.block w.heap.size (by omega)).trans HR.out)
      have hc2 : w2.cell? ⟨w.heap.size, 0, none⟩ = some ov := cell_of_row w2 w.heap.size 0 _ _ _ HR2.out
      have hf2 : w2.frozen? ⟨w.heap.size, 0, none⟩ = false := by have h := HR2.out; simp [World.frozen?, h]
      have hsz2 : wr.heap.size ≤ w2.heap.size := HB2.out.size
      clear hc0 hc0a
      obtain ⟨w3, hw3⟩ : ∃ w3, w3 = w2.setCell ⟨w.heap.size, 0, none⟩ (.slice op (k + 1) oc) := ⟨_, rfl⟩
      have HON : Hid (Only w.heap.size w2 w3) := by unfold Hid; rw [hw3]; exact only_setCell _ _ _ _
      have HR3 : Hid (w3.heap[w.heap.size]? = some (.cells #[.slice op (k + 1) oc] 102 (0, 0))) := by
        unfold Hid
        have h := HR2.out
        rw [hw3]
        simp [World.setCell, Array.getElem?_modify, h]
      have HO3 := hide (own_blocks HO2.out (fun g hg _ => HON.out.block g (by have := (HO2.out.lt g hg).1; omega)))
      have HKV3 := hide (own_blocks HKV2.out (fun g hg _ => HON.out.block g (by have := (HKV2.out.lt g hg).1; omega)))
      have HKS3 : Hid (∀ i, i < k → w.heap.size < ks i ∧ KeyAt w3 (ks i) w.heap.size i) := fun i hi => by
        obtain ⟨h1, h2⟩ := HKS2.out i hi
        refine ⟨h1, ?_⟩
        unfold KeyAt at h2 ⊢
        rw [HON.out.block (ks i) (by omega)]
        exact h2
      have hsz3 : w3.heap.size = w2.heap.size := HON.out.size
      have hw4 := hw3.symm
      clear hw3
      go_wp2_with (first | (at_builtin; refine wpList_append_own _ rfl _ _ 65 rfl (w.heap.size + 1) 79 i45 (.pointer none) 1 8 Tryd.underlying65 hi45 hy0 hy1 hy2 rfl (by decide) _ _ _ rfl ((HKV3.out.alloc _).alloc _) ⟨w2.heap.size + 1, 0, none⟩ 1 1 [.pointer (some ⟨w2.heap.size, 0, none⟩)] rfl rfl ?c1 ?c2 ?c3 ?c4 ?c5 ?_) | go_in)
      case c1 =>
        intro j u hj
        match j, hj with
        | 0, hj =>
          simp at hj
          subst hj
          rw [addr_add, ← hsz3]
          have e1 : (w3.alloc (.cells #[.pointer (some ⟨w.heap.size, 0, none⟩), .int .i64 (k : Int)] 104)).heap.size = w3.heap.size + 1 := by simp
          rw [← e1]
          exact cell_of_row _ _ 0 _ _ _ (heap_alloc_new _ _)
      case c2 => intro u hu; simp at hu; subst hu; rfl
      case c3 => have := HN.out; unfold maxLen; omega
      case c4 => have := HN.out; omega
      case c5 => simp; omega
      intro kv' w5 hown5 hgrow5 _
      obtain ⟨kp, kc, rfl⟩ := own_slice hown5
      have HKV5 := hide hown5
      have hal : ∀ g, g < w3.heap.size → ((w3.alloc (.cells #[.pointer (some ⟨w.heap.size, 0, none⟩), .int .i64 (k : Int)] 104)).alloc (.cells #[.pointer (some ⟨w2.heap.size, 0, none⟩)] 79)).heap[g]? = w3.heap[g]? := fun g hg => (Below.heap_alloc _ _ g (by simp; omega)).trans (Below.heap_alloc _ _ g hg)
      have hkb : ((w3.alloc (.cells #[.pointer (some ⟨w.heap.size, 0, none⟩), .int .i64 (k : Int)] 104)).alloc (.cells #[.pointer (some ⟨w2.heap.size, 0, none⟩)] 79)).heap[w2.heap.size]? = some (.cells #[.pointer (some ⟨w.heap.size, 0, none⟩), .int .i64 (k : Int)] 104 (0, 0)) := by
        rw [← hsz3, Below.heap_alloc _ _ w3.heap.size (by simp)]
        exact heap_alloc_new w3 _
      have HKS5 : Hid (∀ i, i < k + 1 → w.heap.size < (if i = k then w2.heap.size else ks i) ∧ KeyAt w5 (if i = k then w2.heap.size else ks i) w.heap.size i) := fun i hi => by
        by_cases e : i = k
        · rw [if_pos e, e]
          refine ⟨by omega, ?_⟩
          unfold KeyAt
          rw [hgrow5.block w2.heap.size (by simp; omega) (row_apart0 ((HKV3.out.alloc _).alloc _) hkb (by decide))]
          exact hkb
        · rw [if_neg e]
          obtain ⟨h1, h2⟩ := HKS3.out i (by omega)
          refine ⟨h1, ?_⟩
          unfold KeyAt at h2 ⊢
          rw [hgrow5.block (ks i) (by have := row_lt0 h2; simp; omega) (row_apart0 HKV3.out h2 (by decide)), hal _ (row_lt0 h2)]
          exact h2
      have HO5 := hide (own_blocks HO3.out (fun g hg hlt => (hgrow5.block g (by simp; omega) (fun e => own_apart HO3.out HKV3.out (by decide) g hg e.symm)).trans (hal g hlt)))
      have HR5 : Hid (w5.heap[w.heap.size]? = some (.cells #[.slice op (k + 1) oc] 102 (0, 0))) := (hgrow5.block w.heap.size (by simp; omega) (row_apart0 HKV3.out HR3.out (by decide))).trans ((hal _ (by omega)).trans HR3.out)
      have HB5 : Hid (Below w.heap.size w w5) := by
        have h3 : Below w.heap.size w w3 := (HB.out.trans (HB2.out.mono (by omega))).trans (HON.out.below (Nat.le_refl _))
        exact ((h3.alloc (by omega) _).alloc (by simp; omega) _).grown hgrow5 (by simp; omega) (fun j hj => by have := (HKV3.out.lt j hj).1; omega)
      have HKL := hide (keyL_step ks k w2.heap.size)
      clear hown5 hgrow5 hal hkb
      go_wp2
      go_roundw
      case rel => exact ⟨k + 1, .slice op (k + 1) oc, _, HKN.out, by go_num, HR5.out, by rw [List.replicate_succ']; exact HO5.out, by rw [HKL.out]; exact HKV5.out, HKS5.out, HB5.out⟩
      case measure => have := HKN.out; simp [intOf]; omega

end Go.Proofs.YtcfjhbcpjpgodaaDoor
