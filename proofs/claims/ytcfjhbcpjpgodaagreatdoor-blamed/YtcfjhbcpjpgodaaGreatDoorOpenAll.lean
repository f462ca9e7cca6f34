/- Proved here: what the program's openAll reads out of a certificate: its messages; or why it is refused. -/
import Derived.Test.YtcfjhbcpjpgodaaGreatDoorJ43
import Derived.Test.YtcfjhbcpjpgodaaGreatDoorSentF
import Derived.Test.YtcfjhbcpjpgodaaGreatDoorJ23
namespace Go.Proofs.YtcfjhbcpjpgodaaGreatDoor
open Go.RowKit

/-- What openAll sees in a frame. -/
def seenM (sg : Nat → List ByteArray) (n : Nat) (fr : Nat → ByteArray) (i : Nat) : MsgV := if signedB sg n (decV (fr i)).f (fr i) then decV (fr i) else msg0
theorem seenM_step (sg : Nat → List ByteArray) (n : Nat) (fr : Nat → ByteArray) (k : Nat) : (List.range (k + 1)).map (seenM sg n fr) = (List.range k).map (seenM sg n fr) ++ [seenM sg n fr k] := by rw [List.range_succ, List.map_append]; rfl

theorem own_not {w : World} {base e size n g : Nat} {t : TypeId} {v : Value} {xs : List Value} {C : Array Value} (h : w.ownsRow base e size v n xs) (hg : w.heap[g]? = some (.cells C t (0, 0))) (ht : t ≠ e) : some g ≠ v.ownBlock := by
  intro e1
  rcases h.2 with ⟨rfl, _⟩ | ⟨g1, _, _, rfl, _, hh1, _⟩
  · cases e1
  · cases e1
    rw [hh1] at hg
    exact ht (by simpa using (Obj.cells.inj (Option.some.inj hg)).2.1.symm)

theorem RefAt.keep {w w' : World} {g : Nat} {f : Int} {b : Addr} (h : RefAt w g f b) (hb : Below w.heap.size w w') : RefAt w' g f b := by
  unfold RefAt at h ⊢
  rw [hb.block g (row_lt0 h)]
  exact h

/-- What openAll answers. -/
def OpenAllP (sg : Nat → List ByteArray) (n : Nat) (fr : Nat → ByteArray) (m : Nat) (bF bS : Addr) (w : World) (e : Ending) (w' : World) : Prop :=
  Below w.heap.size w w' ∧
    (((∀ i, i < m → decOk (fr i) = true) ∧ (∀ i, i < m → signedB sg n (decV (fr i)).f (fr i) = true) ∧ ∃ v, e = .returned (.tuple #[v, .nilIface]) ∧ w'.ownsRow w.heap.size 57 7 v m (msgL ((List.range m).map fun i => decV (fr i)))) ∨
     ((∃ i, i < m ∧ decOk (fr i) = false) ∧ ∃ g f, RefAt w' g f bF ∧ e = .returned (.tuple #[.slice none 0 0, refV g])) ∨
     ((∀ i, i < m → decOk (fr i) = true) ∧ (∃ i, i < m ∧ signedB sg n (decV (fr i)).f (fr i) = false) ∧ ∃ g f, RefAt w' g f bS ∧ e = .returned (.tuple #[.slice none 0 0, refV g])))

/-- What the variable 'unsigned' holds behind k frames. -/
def UnsI (sg : Nat → List ByteArray) (n : Nat) (fr : Nat → ByteArray) (k : Nat) (bS : Addr) (wr : World) (u : Value) : Prop :=
  (u = .nilIface ∧ ∀ i, i < k → signedB sg n (decV (fr i)).f (fr i) = true) ∨ (∃ i, i < k ∧ signedB sg n (decV (fr i)).f (fr i) = false) ∧ ∃ g f, u = refV g ∧ RefAt wr g f bS

theorem UnsI.next {sg : Nat → List ByteArray} {n : Nat} {fr : Nat → ByteArray} {k : Nat} {bS : Addr} {w w' : World} {u : Value} (h : UnsI sg n fr k bS w u) (hk : ∀ g f b, RefAt w g f b → RefAt w' g f b) (hs : signedB sg n (decV (fr k)).f (fr k) = true) : UnsI sg n fr (k + 1) bS w' u := by
  rcases h with ⟨h1, h2⟩ | ⟨⟨i, hi, h1⟩, g, f, h2, h3⟩
  · refine Or.inl ⟨h1, fun i hi => ?_⟩
    by_cases e : i = k
    · rw [e]; exact hs
    · exact h2 i (by omega)
  · exact Or.inr ⟨⟨i, by omega, h1⟩, g, f, h2, hk _ _ _ h3⟩

set_option maxRecDepth 100000 in
set_option maxHeartbeats 12800000 in
theorem openAll_any (F : Nat → Prop) (rb n : Nat) (sg : Nat → List ByteArray) (fr : Nat → ByteArray) (p : Option Addr) (m cap : Nat) (es : List Addr) (bF bS : Addr) (w : World) (hr : RingI F rb n sg w) (hlt : ∀ k, F k → k < w.heap.size) (hS : SentF es w) (he1 : es[1]? = some bF) (he2 : es[2]? = some bS)
    (hl : Lies w w.heap.size p m (fun i => .string (fr i))) (hm : m ≤ 1000000000) :
    Calls Tryz.prog 95 #[.pointer (some ⟨rb, 0, none⟩), .slice p m cap] w (OpenAllP sg n fr m bF bS w) := by
  obtain ⟨iM, hiM, hy0, hy1, hy2⟩ := info_parts Tryz.infoMsg
  have HR := hide hr
  have HLT := hide hlt
  have HSE := hide hS
  have HE1 := hide he1
  have HE2 := hide he2
  have HL := hide hl
  have HM := hide hm
  have hmx : (m : Int) ≤ 9223372036854775807 := by omega
  have HNE : Hid (bS ≠ bF) := fun e => by
    obtain ⟨h1', e1'⟩ := List.getElem?_eq_some_iff.1 he1
    obtain ⟨h2', e2'⟩ := List.getElem?_eq_some_iff.1 he2
    have h3 := (List.pairwise_iff_getElem.1 hS.nodup) 1 2 h1' h2' (by omega)
    exact h3 (by rw [e1', e2', e])
  clear hr hlt hS he1 he2 hl hm
  go_enter Tryz.func95, Tryz.ntmps95
  go_wp2
  go_loopw [6, 7, 9, 10, 11, 14] (fun v u _ _ _ i wr => ∃ k : Nat, k ≤ m ∧ i = .int .i64 k ∧ (∀ i, i < k → decOk (fr i) = true) ∧ wr.ownsRow w.heap.size 57 7 v k (msgL ((List.range k).map (seenM sg n fr))) ∧ UnsI sg n fr k bS wr u ∧ Below w.heap.size w wr) (fun _ _ _ _ _ i _ => m - (intOf i).toNat)
  case atStart => exact ⟨0, Nat.zero_le _, rfl, fun i hi => by omega, World.ownsRow_nil _ _ _ _, Or.inl ⟨rfl, fun i hi => by omega⟩, Below.refl _ _⟩
  case round =>
    obtain ⟨k, hk, rfl, hao, hv, hun, hb⟩ := hrel
    have HAO := hide hao
    have HV := hide hv
    have HUN := hide hun
    have HB := hide hb
    clear hao hv hun hb
    by_cases hkn : k = m
    · subst hkn
      rcases HUN.out with ⟨rfl, hall⟩ | ⟨hno, g, f, rfl, hra⟩
      · have HALL := hide hall
        clear hall
        go_wp2
        go_ret2
        refine ⟨HB.out, Or.inl ⟨HAO.out, HALL.out, _, rfl, ?_⟩⟩
        have h := HV.out
        rw [List.map_congr_left (f := seenM sg n fr) (g := fun i => decV (fr i)) (fun i hi => by unfold seenM; rw [if_pos (HALL.out i (by simpa using hi))])] at h
        exact h
      · have HNO := hide hno
        have HRA := hide hra
        clear hno hra
        unfold refV
        go_wp2
        go_ret2
        exact ⟨HB.out, Or.inr (Or.inr ⟨HAO.out, HNO.out, g, f, HRA.out, rfl⟩)⟩
    · have hlt : k < m := by omega
      have hlt2 : (k : Int) < m := by omega
      have HK := hide hlt
      obtain ⟨pb, po, rfl, hpb, hc⟩ := HL.out k hlt
      have hcr : wr.cell? ⟨pb, po + k, none⟩ = some (.string (fr k)) := (HB.out.cell (p := ⟨pb, po + k, none⟩) (by exact hpb)).trans hc
      obtain ⟨t, ht⟩ : ∃ t, t = fr k := ⟨_, rfl⟩
      rw [← ht] at hcr
      have HT := hide ht
      have hkx : k ≤ 1000000000 := by have := HM.out; omega
      clear hc ht hkn
      have HSE0 := hide (HSE.out.later HB.out)
      have HO := hide (open_any F rb n sg t bF bS wr (HR.out.frame (fun k hk => HB.out.block k (HLT.out k hk))) (fun k hk => Nat.lt_of_lt_of_le (HLT.out k hk) HB.out.size) (HSE0.out.cell 1 _ _ rfl HE1.out) (HSE0.out.cell 2 _ _ rfl HE2.out))
      obtain ⟨mm, hmm⟩ : ∃ x, x = decV t := ⟨_, rfl⟩
      obtain ⟨K, H, R, Fm, V, nl, s⟩ := mm
      have HMM := hide hmm
      clear hmm
      go_wp2_with fail
      refine HO.out.mono ?_
      clear HO
      rintro e w1 ⟨hb1, hcase⟩
      have HBW : Hid (Below w.heap.size w w1) := HB.out.trans (hb1.mono HB.out.size)
      have HV1 := hide (own_keep HV.out hb1)
      have hws : w.heap.size ≤ w1.heap.size := HBW.out.size
      have HSE1 := hide (HSE0.out.later hb1)
      have HRK1 : Hid (∀ g f b, RefAt wr g f b → RefAt w1 g f b) := fun g f b h => h.keep hb1
      clear hb1 hcr
      rcases hcase with ⟨hd, hs, rfl⟩ | ⟨hd, g, hg, hra, rfl⟩ | ⟨hd, hs, g, hg, hra, rfl⟩
      · rw [← HMM.out]
        have HD : Hid (decOk (fr k) = true) := by unfold Hid; rw [← HT.out]; exact hd
        have HSG : Hid (signedB sg n (decV (fr k)).f (fr k) = true) := by unfold Hid; rw [← HT.out]; exact hs
        have seenM_yes : seenM sg n fr k = ⟨K, H, R, Fm, V, nl, s⟩ := by unfold seenM; rw [if_pos HSG.out, ← HT.out, HMM.out]
        have HSY := hide seenM_yes
        clear hd hs seenM_yes
        unfold MsgV.cells
        go_wp2_with (first | (refine wpList_store_new rfl 57 _ _ rfl w1 #[.int .i64 K, .int .i64 H, .int .i64 R, .int .i64 Fm, .int .i64 V, .bool nl, .string s] rfl rfl 57 _ rfl (by simp [Value.oneCell']) Tryz.sizeMsg ?_; intro w2 hq2 hb2 hz2; have HQ2 := hide hq2; have HV2 := hide (own_keep HV1.out hb2); have HS2 := hide (HSE1.out.later hb2); have hcf : w2.cell? ⟨2, 0, none⟩ = some (.iface 294 (.pointer (some bF))) := HS2.out.cell 1 _ _ rfl HE1.out; have HB2 := hide hb2; have HZ2 := hide hz2; clear hq2 hz2 hb2) | fail)
        refine (is_nil bF w2).mono ?_
        rintro e wy ⟨rfl, hwy⟩
        have hwv := hwy.symm
        clear hwy
        subst hwv
        clear hcf
        go_wp2_with (first | (refine wpList_load_row rfl 57 _ rfl w1.heap.size rfl 57 #[.int .i64 K, .int .i64 H, .int .i64 R, .int .i64 Fm, .int .i64 V, .bool nl, .string s] (0, 0) _ HQ2.out Tryz.underlying57 rfl Tryz.sizeMsg ?_) | (at_builtin; refine wpList_append_at _ rfl _ _ 185 rfl w.heap.size 57 iM _ 7 64 Tryz.underlying185 hiM hy0 hy1 hy2 rfl (by decide) _ _ _ rfl (own_keep HV2.out ((Below.refl _ w2).alloc (Nat.le_refl _) (.cells #[.int .i64 K, .int .i64 H, .int .i64 R, .int .i64 Fm, .int .i64 V, .bool nl, .string s] 57))) ⟨w2.heap.size, 0, none⟩ 1 1 [.int .i64 K, .int .i64 H, .int .i64 R, .int .i64 Fm, .int .i64 V, .bool nl, .string s] rfl rfl ?c1 ?c2 ?c3 ?c4 ?c5 ?_) | go_in)
        case c1 =>
          intro j u hj
          rw [addr_add, Nat.zero_add]
          rw [cell_of_row _ _ j _ _ _ (heap_alloc_new w2 (.cells #[.int .i64 K, .int .i64 H, .int .i64 R, .int .i64 Fm, .int .i64 V, .bool nl, .string s] 57))]
          simpa using hj
        case c2 => simp [Value.oneCell']
        case c3 => unfold maxLen; omega
        case c4 => omega
        case c5 => have := HZ2.out; simp; omega
        intro v5 w5 hown5 hgrow5 hat5
        have hz2 := HZ2.out
        have HO5 : Hid (w5.ownsRow w.heap.size 57 7 v5 (k + 1) (msgL ((List.range (k + 1)).map (seenM sg n fr)))) := by
          unfold Hid
          rw [seenM_step, msgL_append, HSY.out]
          exact hown5
        have HB25 : Hid (Below w.heap.size w2 w5) := ((Below.refl _ w2).alloc (by omega) _).grown hgrow5 (by simp; omega) (fun k hk => (HV2.out.lt k hk).1)
        have HB5 : Hid (Below w.heap.size w w5) := (HBW.out.trans (HB2.out.mono hws)).trans HB25.out
        have HG5 : Hid (∀ g f b, RefAt w2 g f b → RefAt w5 g f b) := fun g f b h => by
          unfold RefAt at h ⊢
          rw [hgrow5.block g (by have := row_lt0 h; simp; omega) (own_not HV2.out h (by decide)), Below.heap_alloc _ _ _ (row_lt0 h)]
          exact h
        clear hown5 hgrow5 hat5 hz2
        go_wp2
        go_roundw
        case rel => exact ⟨k + 1, HK.out, by go_num, fun i hi => (by by_cases e : i = k; (rw [e]; exact HD.out); exact HAO.out i (by omega)), HO5.out, HUN.out.next (fun g f b h => HG5.out g f b ((HRK1.out g f b h).keep HB2.out)) HSG.out, HB5.out⟩
        case measure => have := HK.out; simp [intOf]; omega
      · have HD : Hid (decOk (fr k) = false) := by unfold Hid; rw [← HT.out]; exact hd
        have HRA := hide hra
        clear hd hg hra
        unfold MsgV.cells msg0 refV
        go_wp2_with (first | (refine wpList_store_new rfl 57 _ _ rfl w1 #[.int .i64 0, .int .i64 0, .int .i64 0, .int .i64 0, .int .i64 0, .bool false, .string ⟨#[]⟩] rfl rfl 57 _ rfl (by simp [Value.oneCell']) Tryz.sizeMsg ?_; intro w2 hq2 hb2 hz2; have HQ2 := hide hq2; have HV2 := hide (own_keep HV1.out hb2); have HS2 := hide (HSE1.out.later hb2); have hcf : w2.cell? ⟨2, 0, none⟩ = some (.iface 294 (.pointer (some bF))) := HS2.out.cell 1 _ _ rfl HE1.out; have HB2 := hide hb2; have HZ2 := hide hz2; clear hq2 hz2 hb2) | fail)
        refine (is_refused_same g (-1) bF w2 (HRA.out.keep HB2.out)).mono ?_
        rintro e wy ⟨rfl, hwy⟩
        have hwv := hwy.symm
        clear hwy
        subst hwv
        go_wp2
        go_ret2
        exact ⟨HBW.out.trans (HB2.out.mono hws), Or.inr (Or.inl ⟨⟨k, HK.out, HD.out⟩, g, -1, HRA.out.keep HB2.out, rfl⟩)⟩
      · have HD : Hid (decOk (fr k) = true) := by unfold Hid; rw [← HT.out]; exact hd
        have HSG : Hid (signedB sg n (decV (fr k)).f (fr k) = false) := by unfold Hid; rw [← HT.out]; exact hs
        have seenM_no : seenM sg n fr k = msg0 := by unfold seenM; rw [HSG.out]; rfl
        have HSY := hide seenM_no
        have HRA := hide hra
        clear hd hs hg hra seenM_no
        unfold MsgV.cells msg0 refV
        obtain ⟨cF, tF, hbF⟩ := HSE1.out.blk bF (List.mem_of_getElem? HE1.out)
        obtain ⟨cS, tS, hbS⟩ := HSE1.out.blk bS (List.mem_of_getElem? HE2.out)
        have HBF := hide hbF
        have HBS := hide hbS
        clear hbF hbS
        go_wp2_with (first | (refine wpList_store_new rfl 57 _ _ rfl w1 #[.int .i64 0, .int .i64 0, .int .i64 0, .int .i64 0, .int .i64 0, .bool false, .string ⟨#[]⟩] rfl rfl 57 _ rfl (by simp [Value.oneCell']) Tryz.sizeMsg ?_; intro w2 hq2 hb2 hz2; have HQ2 := hide hq2; have HV2 := hide (own_keep HV1.out hb2); have HS2 := hide (HSE1.out.later hb2); have hcf : w2.cell? ⟨2, 0, none⟩ = some (.iface 294 (.pointer (some bF))) := HS2.out.cell 1 _ _ rfl HE1.out; have HB2 := hide hb2; have HZ2 := hide hz2; clear hq2 hz2 hb2) | fail)
        refine (is_refused_other g _ bS bF _ _ _ _ w2 (HRA.out.keep HB2.out) HNE.out (blk HBS.out HB2.out) (blk HBF.out HB2.out)).mono ?_
        rintro e wy ⟨rfl, hwy⟩
        have hwv := hwy.symm
        clear hwy
        subst hwv
        clear hcf
        go_wp2_with (first | (refine wpList_load_row rfl 57 _ rfl w1.heap.size rfl 57 #[.int .i64 0, .int .i64 0, .int .i64 0, .int .i64 0, .int .i64 0, .bool false, .string ⟨#[]⟩] (0, 0) _ HQ2.out Tryz.underlying57 rfl Tryz.sizeMsg ?_) | (at_builtin; refine wpList_append_at _ rfl _ _ 185 rfl w.heap.size 57 iM _ 7 64 Tryz.underlying185 hiM hy0 hy1 hy2 rfl (by decide) _ _ _ rfl (own_keep HV2.out ((Below.refl _ w2).alloc (Nat.le_refl _) (.cells #[.int .i64 0, .int .i64 0, .int .i64 0, .int .i64 0, .int .i64 0, .bool false, .string ⟨#[]⟩] 57))) ⟨w2.heap.size, 0, none⟩ 1 1 [.int .i64 0, .int .i64 0, .int .i64 0, .int .i64 0, .int .i64 0, .bool false, .string ⟨#[]⟩] rfl rfl ?c1 ?c2 ?c3 ?c4 ?c5 ?_) | go_in)
        case c1 =>
          intro j u hj
          rw [addr_add, Nat.zero_add]
          rw [cell_of_row _ _ j _ _ _ (heap_alloc_new w2 (.cells #[.int .i64 0, .int .i64 0, .int .i64 0, .int .i64 0, .int .i64 0, .bool false, .string ⟨#[]⟩] 57))]
          simpa using hj
        case c2 => simp [Value.oneCell']
        case c3 => unfold maxLen; omega
        case c4 => omega
        case c5 => have := HZ2.out; simp; omega
        intro v5 w5 hown5 hgrow5 hat5
        have hz2 := HZ2.out
        have HO5 : Hid (w5.ownsRow w.heap.size 57 7 v5 (k + 1) (msgL ((List.range (k + 1)).map (seenM sg n fr)))) := by
          unfold Hid
          rw [seenM_step, msgL_append, HSY.out]
          exact hown5
        have HB25 : Hid (Below w.heap.size w2 w5) := ((Below.refl _ w2).alloc (by omega) _).grown hgrow5 (by simp; omega) (fun k hk => (HV2.out.lt k hk).1)
        have HB5 : Hid (Below w.heap.size w w5) := (HBW.out.trans (HB2.out.mono hws)).trans HB25.out
        have HG5 : Hid (∀ g f b, RefAt w2 g f b → RefAt w5 g f b) := fun g f b h => by
          unfold RefAt at h ⊢
          rw [hgrow5.block g (by have := row_lt0 h; simp; omega) (own_not HV2.out h (by decide)), Below.heap_alloc _ _ _ (row_lt0 h)]
          exact h
        clear hown5 hgrow5 hat5 hz2
        go_wp2
        go_roundw
        case rel => exact ⟨k + 1, HK.out, by go_num, fun i hi => (by by_cases e : i = k; (rw [e]; exact HD.out); exact HAO.out i (by omega)), HO5.out, Or.inr ⟨⟨k, by omega, HSG.out⟩, g, _, rfl, HG5.out _ _ _ (HRA.out.keep HB2.out)⟩, HB5.out⟩
        case measure => have := HK.out; simp [intOf]; omega

end Go.Proofs.YtcfjhbcpjpgodaaGreatDoor
