/- Proved here: the law of Fold answers true, whatever the genesis and the blocks. -/
import Derived.Test.YtcfjhbcpjpgodaaDoorFoldsFacts
namespace Go.Proofs.YtcfjhbcpjpgodaaDoor
open Go.RowKit

theorem row_apart {w : World} {base e n g : Nat} {t : TypeId} {v : Value} {xs : List Value} {C : Array Value} (h : w.ownsRow base e 1 v n xs) (hg : w.heap[g]? = some (.cells C t (0, 0))) (ht : t ≠ e) : some g ≠ v.ownBlock := by
  intro e1
  rcases h.2 with ⟨rfl, _⟩ | ⟨g1, _, _, rfl, _, hh1, _⟩
  · cases e1
  · cases e1
    rw [hh1] at hg
    exact ht (by simpa using (Obj.cells.inj (Option.some.inj hg)).2.1.symm)
theorem own_type {w : World} {base e n g : Nat} {v : Value} {xs : List Value} (h : w.ownsRow base e 1 v n xs) (hg : v.ownBlock = some g) : ∀ t c, w.heap[g]? = some (.cells c t (0, 0)) → t = e := by
  intro t c hc
  rcases h.2 with ⟨rfl, _⟩ | ⟨g1, _, _, rfl, _, hh1, _⟩
  · cases hg
  · cases hg
    rw [hh1] at hc
    simpa using (Obj.cells.inj (Option.some.inj hc)).2.1.symm

set_option maxRecDepth 100000 in
set_option maxHeartbeats 6400000 in
theorem folds_walk (g : Nat → Int) (p : Option Addr) (n cap : Nat) (l : List ByteArray) (lp : Option Addr) (lcap : Nat) (es : List Addr) (m : Int) (w : World) (hn : n ≤ 1048576) (hln : l.length ≤ 1048576) (hp : NilOr p n cap) (hlp : NilOr lp l.length lcap)
    (hg : Lies w w.heap.size p n (fun i => .int .i64 (g i))) (hl : Lies w w.heap.size lp l.length (fun i => .string (l.getD i ByteArray.empty))) (hs : ∀ i, i < l.length → (l.getD i ByteArray.empty).size < 4294967281)
    (hS : Sent es w) (hmx : w.cell? ⟨13, 0, none⟩ = some (.int .i64 m)) :
    Calls Tryd.prog 5 #[.slice p n cap, .slice lp l.length lcap] w fun e w' => e = .returned (.bool true) ∧ Below w.heap.size w w' := by
  obtain ⟨y, hy⟩ : ∃ y, y = (foldR g n l).1 := ⟨_, rfl⟩
  obtain ⟨c, hc⟩ : ∃ c, c = (foldR g n l).2 := ⟨_, rfl⟩
  have HF : Hid (foldR g n l = (y, c)) := by unfold Hid; rw [hy, hc]
  have HDY : Hid (Dom y) := by unfold Hid; rw [hy]; exact Dom.fold g n l
  have hes : es.length = 12 := hS.len
  obtain ⟨a1, h1⟩ : ∃ a, es[0]? = some a := ⟨_, List.getElem?_eq_getElem (by omega)⟩
  obtain ⟨a12, h12⟩ : ∃ a, es[11]? = some a := ⟨_, List.getElem?_eq_getElem (by omega)⟩
  have HE1 := hide h1
  have HE12 := hide h12
  have HN := hide hn
  have HLN := hide hln
  have HP := hide hp
  have HLP := hide hlp
  have HG := hide hg
  have HL := hide hl
  have HSZ := hide hs
  have HS := hide hS
  have HMX := hide hmx
  have hml : 13 < w.heap.size := World.block_lt_of_cell? _ _ hmx
  have HLM : Hid (l.length ≤ maxLen) := by unfold Hid maxLen; omega
  clear hy hc hes h1 h12 hn hln hp hlp hg hl hs hS hmx
  go_enter Tryd.func5, Tryd.ntmps5
  go_wp2
  go_loopw [6, 7, 8, 9, 10, 11, 12, 13, 14, 15, 16, 17] (fun i _ _ _ _ _ _ _ _ _ _ _ wr => ∃ j : Nat, j ≤ 2 ∧ i = .int .i64 j ∧ BookI (fun _ => False) w.heap.size (w.heap.size + 1) (2 * j) wr ∧ Below w.heap.size w wr) (fun i _ _ _ _ _ _ _ _ _ _ _ _ => 2 - (intOf i).toNat)
  case atStart => exact ⟨0, by omega, rfl, BookI.new (heap_alloc_new w _), (Below.refl _ w).alloc (Nat.le_refl _) _⟩
  case round =>
    obtain ⟨j, hj, rfl, hbk, hb⟩ := hrel
    have HBK := hide hbk
    have HB := hide hb
    have hszr : w.heap.size < wr.heap.size := by obtain ⟨lv, evs, h1, _, _⟩ := hbk; exact heap_lt h1
    clear hbk hb
    by_cases hj2 : j = 2
    · have hge : ¬ (j : Int) < 2 := by omega
      clear hj2 hj HBK
      have HSr := hide (HS.out.later HB.out)
      obtain ⟨W, hW⟩ : ∃ W, W = (wr.alloc (.cells #[.int .i64 1, .int .i64 1, .int .i64 1] 3)).alloc (.cells #[.string ⟨#[106, 97, 51, 44, 118, 49, 48]⟩, .string ⟨#[108, 97]⟩] 9) := ⟨_, rfl⟩
      have HBW : Hid (Below wr.heap.size wr W) := by unfold Hid; rw [hW]; exact ((Below.refl _ wr).alloc (Nat.le_refl _) _).alloc (by simp) _
      have hWs : W.heap.size = wr.heap.size + 1 + 1 := by rw [hW]; simp
      have HR1 : Hid (W.heap[wr.heap.size]? = some (.cells #[.int .i64 1, .int .i64 1, .int .i64 1] 3 (0, 0))) := by
        unfold Hid
        rw [hW, Below.heap_alloc _ _ wr.heap.size (by simp)]
        exact heap_alloc_new wr _
      have HR2 : Hid (W.heap[wr.heap.size + 1]? = some (.cells #[.string ⟨#[106, 97, 51, 44, 118, 49, 48]⟩, .string ⟨#[108, 97]⟩] 9 (0, 0))) := by
        unfold Hid
        have h := heap_alloc_new (wr.alloc (.cells #[.int .i64 1, .int .i64 1, .int .i64 1] 3)) (.cells #[.string ⟨#[106, 97, 51, 44, 118, 49, 48]⟩, .string ⟨#[108, 97]⟩] 9)
        have e1 : (wr.alloc (.cells #[.int .i64 1, .int .i64 1, .int .i64 1] 3)).heap.size = wr.heap.size + 1 := by simp
        rw [e1] at h
        rw [hW]
        exact h
      have HLG : Hid (Lies W W.heap.size (some ⟨wr.heap.size, 0, none⟩) 3 (fun i => .int .i64 (exG i))) := fun i hi => by
        refine ⟨wr.heap.size, 0, rfl, by omega, ?_⟩
        rw [cell_of_row W _ (0 + i) _ _ _ HR1.out]
        match i, hi with
        | 0, _ => rfl
        | 1, _ => rfl
        | 2, _ => rfl
      have HLL : Hid (Lies W W.heap.size (some ⟨wr.heap.size + 1, 0, none⟩) [ex1, ex2].length (fun i => .string ([ex1, ex2].getD i ByteArray.empty))) := fun i hi => by
        refine ⟨wr.heap.size + 1, 0, rfl, by omega, ?_⟩
        rw [cell_of_row W _ (0 + i) _ _ _ HR2.out]
        match i, hi with
        | 0, _ => rfl
        | 1, _ => rfl
      have HBX : Hid (Below w.heap.size w W) := HB.out.trans (HBW.out.mono HB.out.size)
      have HSW := hide (HSr.out.later HBW.out)
      have HC : Hid (Calls Tryd.prog 16 #[.slice (some ⟨wr.heap.size, 0, none⟩) 3 3, .slice (some ⟨wr.heap.size + 1, 0, none⟩) 2 2] W (FoldP (exY, 0) a1 a12 W)) := by
        have h := foldP_any exG (some ⟨wr.heap.size, 0, none⟩) 3 3 [ex1, ex2] (some ⟨wr.heap.size + 1, 0, none⟩) 2 a1 a12 m W HLG.out HLL.out (by unfold maxLen; decide) (fun i hi => by
          match i, hi with
          | 0, _ => decide
          | 1, _ => decide) (HSW.out.cell 0 _ _ rfl HE1.out) (HSW.out.cell 11 _ _ rfl HE12.out) ((HBX.out.cell (p := ⟨13, 0, none⟩) (by exact hml)).trans HMX.out)
        rw [ex_fold] at h
        exact h
      have hW2 := hW.symm
      clear hW HR1 HR2 HLG HLL
      go_wp2_with fail
      refine HC.out.mono ?_
      intro e w3 hfp
      obtain ⟨pp, rp, np, nr, pc, rc, s, ev, xs, ys, rfl, hop, hor, -, -, -, -, hc0, -, hb3⟩ := fold_uni HE1.out HE12.out hfp
      obtain ⟨rfl, rfl, hnr, -, hsn, rfl⟩ := hc0 rfl
      rw [ex_name] at hsn
      subst hsn
      clear hfp hc0 HC hor hnr hW2
      have HOP := hide hop
      have HB3 : Hid (Below w.heap.size w w3) := HBX.out.trans (hb3.mono HBX.out.size)
      have hs3 : W.heap.size ≤ w3.heap.size := hb3.size
      clear hop hb3
      go_wp2_with (refine wpList_store_rowG rfl 48 _ _ rfl w3.heap.size #[.slice pp 8 pc, .string ⟨#[]⟩, .slice rp nr rc] rfl rfl 48 #[.slice none 0 0, .string ⟨#[]⟩, .slice none 0 0] (heap_alloc_new w3 _) rfl (by simp [Value.oneCell']) Tryd.sizeTold ?_; intro w4 hq4 ho4; have HQ4 := hide hq4; have HO4 := hide ho4; have hk0 := cell_of_row w4 w3.heap.size 0 _ _ _ hq4; have hk1 := cell_of_row w4 w3.heap.size 1 _ _ _ hq4; simp only [List.getElem?_toArray, List.getElem?_cons_zero, List.getElem?_cons_succ] at hk0 hk1; clear hq4 ho4)
      have HB4 : Hid (Below w3.heap.size w3 w4) := ((Below.refl _ w3).alloc (Nat.le_refl _) _).trans (HO4.out.below (Nat.le_refl _))
      have HL4 : Hid (Lies w4 w4.heap.size pp 8 (fun i => .int .i64 (((List.range 8).map exY).getD i 0))) := by
        have h := HOP.out
        rw [powL_nums] at h
        exact ((own_nums h).2.below HB4.out).more HB4.out.size
      obtain ⟨Z8, hZ8⟩ : ∃ Z : List Value, Z = [.int .i64 1, .int .i64 0, .int .i64 1, .int .i64 0, .int .i64 0, .int .i64 0, .int .i64 0, .int .i64 0] := ⟨_, rfl⟩
      have HLZ : Hid (Lies (w4.alloc (.cells #[.int .i64 1, .int .i64 0, .int .i64 1, .int .i64 0, .int .i64 0, .int .i64 0, .int .i64 0, .int .i64 0] 3)) (w4.heap.size + 1) (some ⟨w4.heap.size, 0, none⟩) 8 (fun i => .int .i64 (((List.range 8).map exY).getD i 0))) := fun i hi => by
        refine ⟨w4.heap.size, 0, rfl, by omega, ?_⟩
        rw [cell_of_row _ _ (0 + i) _ _ _ (heap_alloc_new w4 _)]
        match i, hi with
        | 0, _ => rfl
        | 1, _ => rfl
        | 2, _ => rfl
        | 3, _ => rfl
        | 4, _ => rfl
        | 5, _ => rfl
        | 6, _ => rfl
        | 7, _ => rfl
      have HSM := hide (same_any (fun i => ((List.range 8).map exY).getD i 0) (fun i => ((List.range 8).map exY).getD i 0) pp (some ⟨w4.heap.size, 0, none⟩) 8 8 pc 8 (w4.alloc (.cells #[.int .i64 1, .int .i64 0, .int .i64 1, .int .i64 0, .int .i64 0, .int .i64 0, .int .i64 0, .int .i64 0] 3)) (by unfold maxLen; decide) ((HL4.out.below ((Below.refl _ w4).alloc (Nat.le_refl _) _)).more (by simp)) (by have h := HLZ.out; simpa using h))
      go_wp2_with fail
      refine HSM.out.mono ?_
      rintro e w5 ⟨⟨o, rfl, ho⟩, hb5⟩
      obtain rfl : o = true := by first | exact ho rfl (fun _ _ => rfl) | exact ho trivial (fun _ _ => trivial) | (simp at ho; exact ho)
      have HB5 : Hid (Below w4.heap.size w4 w5) := ((Below.refl _ w4).alloc (Nat.le_refl _) _).trans (hb5.mono (by simp))
      have hk5 : w5.cell? ⟨w3.heap.size, 1, none⟩ = some (.string ⟨#[]⟩) := (HB5.out.cell (p := ⟨w3.heap.size, 1, none⟩) (by exact heap_lt HQ4.out)).trans hk1
      clear ho hb5 HSM HLZ HL4 hk0 hk1
      go_wp2
      go_ret
      exact ⟨rfl, (HB3.out.trans (HB4.out.mono HB3.out.size)).trans (HB5.out.mono (Nat.le_trans HB3.out.size HB4.out.size))⟩
    · have hlt : (j : Int) < 2 := by omega
      have hj1 : j ≤ 1 := by omega
      clear hj2 hj
      have HGr := hide ((HG.out.below HB.out).more HB.out.size)
      go_wp2_with fail
      refine (roomy_ready g p n cap wr (by have := HN.out; omega) HP.out HGr.out).mono ?_
      rintro e w1 ⟨⟨gp, gc, rfl, hl1, hk1⟩, hb1⟩
      have HL1 := hide hl1
      have HK1 := hide hk1
      have HBr1 := hide hb1
      have HB1 : Hid (Below w.heap.size w w1) := HB.out.trans (hb1.mono HB.out.size)
      clear hl1 hk1 hb1 HGr
      have HLr := hide ((HL.out.below HB1.out).more HB1.out.size)
      go_wp2_with fail
      refine (texts_ready (fun i => l.getD i ByteArray.empty) lp l.length lcap w1 (by have := HLN.out; omega) HLP.out HLr.out).mono ?_
      rintro e w2 ⟨⟨tp, tc, rfl, hl2, hk2⟩, hb2⟩
      have HL2 := hide hl2
      have HK2 := hide hk2
      have HB12 := hide hb2
      have HB2 : Hid (Below w.heap.size w w2) := HB1.out.trans (hb2.mono HB1.out.size)
      have HBr2 : Hid (Below wr.heap.size wr w2) := HBr1.out.trans (hb2.mono HBr1.out.size)
      clear hl2 hk2 hb2 HLr
      have HS2 := hide (HS.out.later HB2.out)
      have HC := hide (foldP_any g gp n gc l tp tc a1 a12 m w2 ((HL1.out.below HB12.out).more HB12.out.size) HL2.out HLM.out HSZ.out (HS2.out.cell 0 _ _ rfl HE1.out) (HS2.out.cell 11 _ _ rfl HE12.out) ((HB2.out.cell (p := ⟨13, 0, none⟩) (by exact hml)).trans HMX.out))
      go_wp2_with fail
      refine HC.out.mono ?_
      intro e w3 hfp
      rw [HF.out] at hfp
      obtain ⟨pp, rp, np, nr, pc, rc, s, ev, xs, ys, rfl, hop, hor, hap, hnp, hnr, hwh, hc0, hc1, hb3⟩ := fold_uni HE1.out HE12.out hfp
      have HOP := hide hop
      have HOR := hide hor
      have HAP := hide hap
      have HNP := hide hnp
      have HNR := hide hnr
      have HWH := hide hwh
      have HC0 := hide hc0
      have HC1 := hide hc1
      have HB23 := hide hb3
      have HB3 : Hid (Below w.heap.size w w3) := HB2.out.trans (hb3.mono HB2.out.size)
      clear hfp hop hor hap hnp hnr hwh hc0 hc1 hb3 HC HS2
      go_wp2_with (refine wpList_store_rowG rfl 48 _ _ rfl w3.heap.size #[.slice pp np pc, .string s, .slice rp nr rc] rfl rfl 48 #[.slice none 0 0, .string ⟨#[]⟩, .slice none 0 0] (heap_alloc_new w3 _) rfl (by simp [Value.oneCell']) Tryd.sizeTold ?_; intro w4 hq4 ho4; have HQ4 := hide hq4; have HO4 := hide ho4; clear hq4 ho4)
      have HB34 : Hid (Below w3.heap.size w3 w4) := ((Below.refl _ w3).alloc (Nat.le_refl _) _).trans (HO4.out.below (Nat.le_refl _))
      have HB4 : Hid (Below w.heap.size w w4) := HB3.out.trans (HB34.out.mono HB3.out.size)
      have HC := hide (fold_any g p n cap l lp lcap w4 ((HG.out.below HB4.out).more HB4.out.size) ((HL.out.below HB4.out).more HB4.out.size) HLM.out HSZ.out)
      refine HC.out.mono ?_
      rintro e w5 ⟨rfl, hb5⟩
      rw [HF.out]
      have HB45 := hide hb5
      have HB35 : Hid (Below w3.heap.size w3 w5) := HB34.out.trans (hb5.mono HB34.out.size)
      have h34 : w3.heap.size < w4.heap.size := heap_lt HQ4.out
      have HQ5 : Hid (w5.heap[w3.heap.size]? = some (.cells #[.slice pp np pc, .string s, .slice rp nr rc] 48 (0, 0))) := (hb5.block _ h34).trans HQ4.out
      have z0 := regA_zero
      clear hb5 HC
      go_wp2_with (refine wpList_store_reg rfl 54 _ _ rfl w5.heap.size y rfl rfl 54 (regA reg0) (heap_alloc_new w5 _) (regA_size _) Tryd.sizeReg ?_; intro w6 hq6 ho6; have HQ6 := hide hq6; have HO6 := hide ho6; clear hq6 ho6)
      have HB56 : Hid (Below w5.heap.size w5 w6) := ((Below.refl _ w5).alloc (Nat.le_refl _) _).trans (HO6.out.below (Nat.le_refl _))
      have HB36 : Hid (Below w3.heap.size w3 w6) := HB35.out.trans (HB56.out.mono HB35.out.size)
      have h35 : w3.heap.size < w5.heap.size := Nat.lt_of_lt_of_le h34 HB45.out.size
      have HQ36 : Hid (w6.heap[w3.heap.size]? = some (.cells #[.slice pp np pc, .string s, .slice rp nr rc] 48 (0, 0))) := (HB56.out.block _ h35).trans HQ5.out
      have HB6 : Hid (Below w.heap.size w w6) := HB3.out.trans (HB36.out.mono HB3.out.size)
      have HS6 := hide (HS.out.later HB6.out)
      refine (HWH.out w6 HS6.out).mono ?_
      rintro e w7 ⟨rfl, hb7⟩
      have HB37 : Hid (Below w3.heap.size w3 w7) := HB36.out.trans (hb7.mono HB36.out.size)
      have h56 : w5.heap.size < w6.heap.size := heap_lt HQ6.out
      have HQ37 : Hid (w7.heap[w3.heap.size]? = some (.cells #[.slice pp np pc, .string s, .slice rp nr rc] 48 (0, 0))) := (hb7.block _ (by omega)).trans HQ36.out
      have HQ57 : Hid (RegAt w7 w5.heap.size 54 y) := HQ6.out.below hb7
      clear hb7 HWH HS6 HQ36 HQ6 HQ5 HQ4 HO4 HO6 HB34 HB35 HB36 HB45 HB56 HB6 HB4 z0
      obtain ⟨A1, hA1⟩ : ∃ A : Nat → Int, A = fun i => ((List.range 8).map y).getD i 0 := ⟨_, rfl⟩
      obtain ⟨A2, hA2⟩ : ∃ A : Nat → Int, A = fun i => ((memb y 26).map fun j => y (8 + j)).getD i 0 := ⟨_, rfl⟩
      have HLP7 : Hid (Lies w7 w7.heap.size pp np (fun i => .int .i64 (A1 i))) := by
        unfold Hid
        by_cases hc : c = 0
        · obtain ⟨e1, e2, -⟩ := HC0.out hc
          have h := HOP.out
          rw [e2, powL_nums] at h
          rw [hA1]
          exact ((own_nums h).2.below HB37.out).more HB37.out.size
        · obtain ⟨e1, -⟩ := HC1.out hc
          subst e1
          exact fun i hi => by omega
      have HLR7 : Hid (Lies w7 w7.heap.size rp nr (fun i => .int .i64 (A2 i))) := by
        unfold Hid
        by_cases hc : c = 0
        · obtain ⟨-, -, e1, e2, -⟩ := HC0.out hc
          have h := HOR.out
          rw [e2, roleL_nums] at h
          rw [hA2]
          exact ((own_nums h).2.below HB37.out).more HB37.out.size
        · obtain ⟨-, e1, -⟩ := HC1.out hc
          subst e1
          exact fun i hi => by omega
      go_wp2_with fail
      refine wp_region_held_drew (S := fun W' => W'.heap[w3.heap.size]? = some (.cells #[.slice pp np pc, .string s, .slice rp nr rc] 48 (0, 0)) ∧ RegAt W' w5.heap.size 54 y) (by kernel_rfl) ⟨HQ37.out, HQ57.out.drew⟩ (fun hHeld => ?_)
      refine takeD 0 (some 45) (.agg #[.slice pp np pc, .string s, .slice rp nr rc]) rfl rfl (by kernel_rfl) (by kernel_rfl) (by kernel_rfl) (fun _ _ _ h => h) (yieldsIf_load_mid (by rfl) 48 _ rfl w3.heap.size 0 rfl [.slice pp np pc, .string s, .slice rp nr rc] _ (fun w h => row_range h.1) Tryd.underlying48 rfl (by rw [Tryd.sizeTold]; rfl)) hHeld ?_
      simp only [Act.put, List.setIfInBounds_toArray, List.set_cons_zero, List.set_cons_succ]
      refine takeD 1 (some 46) (.agg (regA y)) rfl rfl (by kernel_rfl) (by kernel_rfl) (by kernel_rfl) (fun _ _ _ h => h) (yields_load_reg (by rfl) 54 _ rfl w5.heap.size rfl 54 y _ (fun w h => h.2) Tryd.underlying54 rfl Tryd.sizeReg) hHeld ?_
      simp only [Act.put, List.setIfInBounds_toArray, List.set_cons_zero, List.set_cons_succ]
      refine wpAnyH_ready (rs := [2]) (by kernel_rfl) (by simp) ?_
      refine AllReadyH.cons rfl (fun K hK => ?_) AllReadyH.nil
      go_simp
      go_wp2_with ((go_at_call 19; refine (plain_any y _ HDY.out).mono ?_; rintro e w8 ⟨p2, r2, rfl, hp2, hr2, hb8⟩))
      obtain ⟨q2, qc, rfl⟩ := own_slice hp2
      obtain ⟨t2, t2c, rfl⟩ := own_slice hr2
      have HP2 := hide hp2
      have HR2 := hide hr2
      have HB78 : Hid (Below w7.heap.size w7 w8) := ((Below.refl w7.heap.size w7).drew).trans hb8
      clear hp2 hr2 hb8
      refine hK.out _ _ ⟨(HB78.out.block _ (heap_lt HQ37.out)).trans HQ37.out, HQ57.out.below HB78.out⟩ (fun hHeld => ?_)
      clear hK K
      have HLQ : Hid (Lies w8 w8.heap.size q2 8 (fun i => .int .i64 (A1 i))) := by
        have h := HP2.out
        rw [powL_nums] at h
        rw [hA1]
        exact (own_nums h).2
      have HLT : Hid (Lies w8 w8.heap.size t2 (memb y 26).length (fun i => .int .i64 (A2 i))) := by
        have h := HR2.out
        rw [roleL_nums] at h
        rw [hA2]
        exact (own_nums h).2
      have hml2 := memb_length y 26
      refine wpAnyH_ready (rs := [3]) (by kernel_rfl) (by simp) ?_
      refine AllReadyH.cons rfl (fun K hK => ?_) AllReadyH.nil
      go_simp
      go_wp2_with ((go_at_call 18; refine (equal_any A1 A1 A2 A2 pp q2 rp t2 np 8 nr (memb y 26).length pc rc qc t2c s (nameB (memb y 26)) w8 (by have := HNP.out; unfold maxLen; omega) (by have := HNR.out; unfold maxLen; omega) ((HLP7.out.below HB78.out).more HB78.out.size) HLQ.out ((HLR7.out.below HB78.out).more HB78.out.size) HLT.out).mono ?_; rintro e w9 ⟨⟨o, rfl, ho⟩, hb9⟩))
      have HB89 := hide hb9
      have HO := hide ho
      clear hb9 ho
      refine hK.out _ _ ⟨(HB89.out.block _ (heap_lt hHeld.1)).trans hHeld.1, hHeld.2.below HB89.out⟩ (fun hHeld => ?_)
      clear hK K
      refine wpAnyH_ready (rs := [4]) (by kernel_rfl) (by simp) ?_
      refine AllReadyH.cons rfl (fun K hK => ?_) AllReadyH.nil
      go_simp
      refine hK.out _ _ hHeld (fun hHeld => ?_)
      clear hK K
      refine wpAnyH_done (by kernel_rfl) ?_ _
      have HQ9 := hide hHeld.1
      have HB79 : Hid (Below w7.heap.size w7 w9) := HB78.out.trans (HB89.out.mono HB78.out.size)
      have HB39 : Hid (Below w3.heap.size w3 w9) := HB37.out.trans (HB79.out.mono HB37.out.size)
      have HB29 : Hid (Below w2.heap.size w2 w9) := HB23.out.trans (HB39.out.mono HB23.out.size)
      have HB19 : Hid (Below w1.heap.size w1 w9) := HB12.out.trans (HB29.out.mono HB12.out.size)
      have HBr9 : Hid (Below wr.heap.size wr w9) := HBr1.out.trans (HB19.out.mono HBr1.out.size)
      have HB9 : Hid (Below w.heap.size w w9) := HB.out.trans (HBr9.out.mono HB.out.size)
      have hs2 : wr.heap.size ≤ w2.heap.size := HBr2.out.size
      have hs3 : w2.heap.size ≤ w3.heap.size := HB23.out.size
      have hs9 : w3.heap.size ≤ w9.heap.size := HB39.out.size
      have HOP9 : Hid (w9.ownsRow w2.heap.size 3 1 (.slice pp np pc) np xs) := own_blocks HOP.out (fun g2 e2 hlt => HB39.out.block g2 hlt)
      have HOR9 : Hid (w9.ownsRow w2.heap.size 3 1 (.slice rp nr rc) nr ys) := own_blocks HOR.out (fun g2 e2 hlt => HB39.out.block g2 hlt)
      have HBK9 : Hid (BookI (fun b => some b = Value.ownBlock (.slice pp np pc) ∨ some b = Value.ownBlock (.slice rp nr rc)) w.heap.size (w.heap.size + 1) (2 * j) w9) := by
        have h := (HBK.out.avoid (A' := fun b => wr.heap.size ≤ b) (fun b h1 h2 => by omega)).below HBr9.out
        refine h.avoid (fun b _ h2 => ?_)
        rcases h2 with e | e
        · have := (HOP9.out.lt b e.symm).1; omega
        · have := (HOR9.out.lt b e.symm).1; omega
      have hcc : (c == c) = true := by simp
      have hcn : (c != c) = false := by simp
      clear hHeld HB89 HB78 HB79 HLP7 HLR7 HLQ HLT HP2 HR2 HQ37 HQ57 HBK HOP HOR HB37 hA1 hA2
      have hq0 := cell_of_row w9 w3.heap.size 0 _ _ _ HQ9.out
      have hq1 := cell_of_row w9 w3.heap.size 1 _ _ _ HQ9.out
      have hq2 := cell_of_row w9 w3.heap.size 2 _ _ _ HQ9.out
      simp only [List.getElem?_toArray, List.getElem?_cons_zero, List.getElem?_cons_succ] at hq0 hq1 hq2
      by_cases hc : c = 0
      · obtain ⟨e1, -, e3, -, e5, -⟩ := HC0.out hc
        obtain rfl : o = true := by first | exact HO.out e1 (fun _ _ => rfl) e3 (fun _ _ => rfl) e5 | exact HO.out e1 (fun _ _ => trivial) e3 (fun _ _ => trivial) e5
        subst hc
        clear e1 e3 e5
        go_wp2_with fail
        refine (HK1.out w9 HB19.out).mono ?_
        rintro e wx ⟨rfl, hwx⟩
        have hwy := hwx.symm
        clear hwx
        subst hwy
        go_wp2_with fail
        refine (HK2.out w9 HB29.out).mono ?_
        rintro e wx ⟨rfl, hwx⟩
        have hwy := hwx.symm
        clear hwx
        subst hwy
        go_wp2_with fail
        refine (keep_book (fun b => some b = Value.ownBlock (.slice pp np pc) ∨ some b = Value.ownBlock (.slice rp nr rc)) (fun b => some b = Value.ownBlock (.slice rp nr rc)) w.heap.size (w.heap.size + 1) w2.heap.size (2 * j) np (.slice pp np pc) xs w9 (by omega) (by have := HNP.out; omega) HBK9.out HOP9.out (by omega) (by omega) HB29.out.size (by omega) (fun _ e => Or.inl e.symm) (fun b e => ⟨Or.inr e, fun e2 => HAP.out b e2.symm e.symm, (HOR9.out.lt b e.symm).2⟩)).mono ?_
        rintro e wa ⟨rfl, hba, hbb, hfr⟩
        have HBKa := hide hba
        have HBa := hide hbb
        have HQa : Hid (wa.heap[w3.heap.size]? = some (.cells #[.slice pp np pc, .string s, .slice rp nr rc] 48 (0, 0))) := (hfr w3.heap.size (heap_lt HQ9.out) (by omega) (row_apart HOP9.out HQ9.out (by decide)) (fun t c h => by rw [HQ9.out] at h; have := (Obj.cells.inj (Option.some.inj h)).2.1; rw [← this]; decide)).trans HQ9.out
        have HORa : Hid (wa.ownsRow w2.heap.size 3 1 (.slice rp nr rc) nr ys) := own_blocks HOR9.out (fun g2 e2 hlt => hfr g2 hlt (by have := (HOR9.out.lt g2 e2).1; omega) (fun e3 => HAP.out g2 e3.symm e2) (fun t c h => by rw [own_type HOR9.out e2 t c h]; decide))
        have hsa : w9.heap.size ≤ wa.heap.size := hbb.size
        clear hba hbb hfr
        have hka := cell_of_row wa w3.heap.size 2 _ _ _ HQa.out
        simp only [List.getElem?_toArray, List.getElem?_cons_zero, List.getElem?_cons_succ] at hka
        go_wp2_with fail
        refine (keep_book (fun b => some b = Value.ownBlock (.slice rp nr rc)) (fun _ => False) w.heap.size (w.heap.size + 1) w2.heap.size (2 * j + 1) nr (.slice rp nr rc) ys wa (by omega) (by have := HNR.out; omega) HBKa.out HORa.out (by omega) (by omega) (Nat.le_trans HB29.out.size hsa) (by omega) (fun _ e => e.symm) (fun b e => e.elim)).mono ?_
        rintro e wb ⟨rfl, hba, hbb, -⟩
        have HBKb := hide hba
        have HBb := hide hbb
        clear hba hbb hka
        go_wp2_with fail
        refine (looks_book (fun _ => False) w.heap.size (w.heap.size + 1) (2 * j + 1 + 1) wb (by omega) HBKb.out).mono ?_
        rintro e wc ⟨rfl, hbc⟩
        have HBKc : Hid (BookI (fun _ => False) w.heap.size (w.heap.size + 1) (2 * (j + 1)) wc) := HBKb.out.below hbc
        have hsb : w.heap.size ≤ wb.heap.size := Nat.le_trans (by omega) (Nat.le_trans hsa HBb.out.size)
        have HBc : Hid (Below w.heap.size w wc) := ((HB9.out.trans HBa.out).trans HBb.out).trans (hbc.mono hsb)
        clear hbc
        go_wp2
        go_roundw
        case rel => exact ⟨j + 1, by omega, by go_num, HBKc.out, HBc.out⟩
        case measure => simp [intOf]; omega
      · obtain ⟨e1, e2, e3⟩ := HC1.out hc
        have e4 : s = ⟨#[]⟩ := e3
        clear e3
        subst e1
        subst e2
        subst e4
        have hcb : (c == 0) = false := by simpa using hc
        have hcm : (c != 0) = true := by simpa using hc
        clear hc
        go_wp2_with fail
        refine (HK1.out w9 HB19.out).mono ?_
        rintro e wx ⟨rfl, hwx⟩
        have hwy := hwx.symm
        clear hwx
        subst hwy
        go_wp2_with fail
        refine (HK2.out w9 HB29.out).mono ?_
        rintro e wx ⟨rfl, hwx⟩
        have hwy := hwx.symm
        clear hwx
        subst hwy
        go_wp2_with fail
        refine (keep_book (fun b => some b = Value.ownBlock (.slice pp 0 pc) ∨ some b = Value.ownBlock (.slice rp 0 rc)) (fun b => some b = Value.ownBlock (.slice rp 0 rc)) w.heap.size (w.heap.size + 1) w2.heap.size (2 * j) 0 (.slice pp 0 pc) xs w9 (by omega) (by have := HNP.out; omega) HBK9.out HOP9.out (by omega) (by omega) HB29.out.size (by omega) (fun _ e => Or.inl e.symm) (fun b e => ⟨Or.inr e, fun e2 => HAP.out b e2.symm e.symm, (HOR9.out.lt b e.symm).2⟩)).mono ?_
        rintro e wa ⟨rfl, hba, hbb, hfr⟩
        have HBKa := hide hba
        have HBa := hide hbb
        have HQa : Hid (wa.heap[w3.heap.size]? = some (.cells #[.slice pp 0 pc, .string ⟨#[]⟩, .slice rp 0 rc] 48 (0, 0))) := (hfr w3.heap.size (heap_lt HQ9.out) (by omega) (row_apart HOP9.out HQ9.out (by decide)) (fun t c h => by rw [HQ9.out] at h; have := (Obj.cells.inj (Option.some.inj h)).2.1; rw [← this]; decide)).trans HQ9.out
        have HORa : Hid (wa.ownsRow w2.heap.size 3 1 (.slice rp 0 rc) 0 ys) := own_blocks HOR9.out (fun g2 e2 hlt => hfr g2 hlt (by have := (HOR9.out.lt g2 e2).1; omega) (fun e3 => HAP.out g2 e3.symm e2) (fun t c h => by rw [own_type HOR9.out e2 t c h]; decide))
        have hsa : w9.heap.size ≤ wa.heap.size := hbb.size
        clear hba hbb hfr
        have hka := cell_of_row wa w3.heap.size 2 _ _ _ HQa.out
        simp only [List.getElem?_toArray, List.getElem?_cons_zero, List.getElem?_cons_succ] at hka
        go_wp2_with fail
        refine (keep_book (fun b => some b = Value.ownBlock (.slice rp 0 rc)) (fun _ => False) w.heap.size (w.heap.size + 1) w2.heap.size (2 * j + 1) 0 (.slice rp 0 rc) ys wa (by omega) (by have := HNR.out; omega) HBKa.out HORa.out (by omega) (by omega) (Nat.le_trans HB29.out.size hsa) (by omega) (fun _ e => e.symm) (fun b e => e.elim)).mono ?_
        rintro e wb ⟨rfl, hba, hbb, -⟩
        have HBKb := hide hba
        have HBb := hide hbb
        clear hba hbb hka
        go_wp2_with fail
        refine (looks_book (fun _ => False) w.heap.size (w.heap.size + 1) (2 * j + 1 + 1) wb (by omega) HBKb.out).mono ?_
        rintro e wc ⟨rfl, hbc⟩
        have HBKc : Hid (BookI (fun _ => False) w.heap.size (w.heap.size + 1) (2 * (j + 1)) wc) := HBKb.out.below hbc
        have hsb : w.heap.size ≤ wb.heap.size := Nat.le_trans (by omega) (Nat.le_trans hsa HBb.out.size)
        have HBc : Hid (Below w.heap.size w wc) := ((HB9.out.trans HBa.out).trans HBb.out).trans (hbc.mono hsb)
        clear hbc
        go_wp2
        go_roundw
        case rel => exact ⟨j + 1, by omega, by go_num, HBKc.out, HBc.out⟩
        case measure => simp [intOf]; omega

end Go.Proofs.YtcfjhbcpjpgodaaDoor
