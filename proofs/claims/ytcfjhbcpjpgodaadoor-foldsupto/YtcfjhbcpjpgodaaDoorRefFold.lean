/- Proved here: what the document's Fold answers at every genesis and every list of blocks. -/
import Derived.Test.YtcfjhbcpjpgodaaDoorRefDom
namespace Go.Proofs.YtcfjhbcpjpgodaaDoor
open Go.RowKit

/-- The registry behind blocks, one after another; none: one of them is not good. -/
def foldB : (Nat → Int) → List ByteArray → Option (Nat → Int)
  | x, [] => some x
  | x, t :: l => if (behindR x t).2 then foldB (behindR x t).1 l else none
/-- The registry behind all, and the error. -/
def foldR (g : Nat → Int) (n : Nat) (l : List ByteArray) : (Nat → Int) × Int :=
  if (genR g n).2 then (match foldB (genR g n).1 l with | some y => (y, 0) | none => (reg0, 12)) else (reg0, 1)

theorem foldR_arg (g : Nat → Int) (n : Nat) (l : List ByteArray) (h : (genR g n).2 = false) : foldR g n l = (reg0, 1) := by unfold foldR; rw [h]; rfl
theorem foldR_bad (g : Nat → Int) (n : Nat) (l : List ByteArray) (h : (genR g n).2 = true) (h2 : foldB (genR g n).1 l = none) : foldR g n l = (reg0, 12) := by unfold foldR; rw [h, h2]; rfl
theorem foldR_good (g : Nat → Int) (n : Nat) (l : List ByteArray) (y : Nat → Int) (h : (genR g n).2 = true) (h2 : foldB (genR g n).1 l = some y) : foldR g n l = (y, 0) := by unfold foldR; rw [h, h2]; rfl
theorem foldB_step (y : Nat → Int) (l : List ByteArray) (k : Nat) (hk : k < l.length) (z : Nat → Int) (o : Bool) (h : behindR y (l.getD k ByteArray.empty) = (z, o)) : foldB y (l.drop k) = if o then foldB z (l.drop (k + 1)) else none := by
  have e : l.drop k = l.getD k ByteArray.empty :: l.drop (k + 1) := by
    rw [List.drop_eq_getElem_cons hk, List.getD_eq_getElem?_getD, List.getElem?_eq_getElem hk]
    rfl
  rw [e, foldB, h]

set_option maxRecDepth 100000 in
set_option maxHeartbeats 3200000 in
theorem fold_any (g : Nat → Int) (p : Option Addr) (n cap : Nat) (l : List ByteArray) (lp : Option Addr) (lcap : Nat) (w : World) (hg : Lies w w.heap.size p n (fun i => .int .i64 (g i)))
    (hl : Lies w w.heap.size lp l.length (fun i => .string (l.getD i ByteArray.empty))) (hm : l.length ≤ maxLen) (hs : ∀ i, i < l.length → (l.getD i ByteArray.empty).size < 4294967281) :
    Calls Tryd.prog 17 #[.slice p n cap, .slice lp l.length lcap] w fun e w' => e = .returned (.tuple #[.agg (regA (foldR g n l).1), .int .i64 (foldR g n l).2]) ∧ Below w.heap.size w w' := by
  have z0 := regA_zero
  obtain ⟨z1, hz1⟩ : ∃ z, z = (genR g n).1 := ⟨_, rfl⟩
  obtain ⟨o1, ho1⟩ : ∃ o, o = (genR g n).2 := ⟨_, rfl⟩
  have HGE : Hid (genR g n = (z1, o1)) := by unfold Hid; rw [hz1, ho1]
  have HDZ1 : Hid (Dom z1) := by unfold Hid; rw [hz1]; exact Dom.gen g n
  clear hz1 ho1
  have HG := hide hg
  have HL := hide hl
  have HM := hide hm
  have HS := hide hs
  clear hg hl hm hs
  have HR0 := hide (RegAt.alloc w 54 reg0)
  go_enter Tryd.func17, Tryd.ntmps17
  go_wp2_with fail
  refine (genesis_at g p n cap z1 o1 _ ((HG.out.below ((Below.refl _ w).alloc (Nat.le_refl _) _)).more (by simp)) HGE.out).mono ?_
  rintro e w1 ⟨rfl, hb1⟩
  have HR1' := hide (HR0.out.below hb1)
  have HW1 : Hid (Below w.heap.size w w1) := ((Below.refl _ w).alloc (Nat.le_refl _) _).trans (hb1.mono (by simp))
  have hsz : w.heap.size + 1 ≤ w1.heap.size := by have := hb1.size; simpa using this
  clear hb1 HR0
  cases o1
  · have HE := hide (foldR_arg g n l (by rw [HGE.out]))
    go_wp2_with (first | (refine wpList_store_reg rfl 54 _ _ rfl w1.heap.size z1 rfl rfl 54 (regA reg0) (heap_alloc_new w1 _) (regA_size _) Tryd.sizeReg ?_; intro w2 hq ho; have HO2 := hide ho; clear hq ho) | (refine wpList_store_reg rfl 54 _ _ rfl w.heap.size reg0 rfl rfl 54 (regA reg0) (HR1'.out.below (((Below.refl _ w1).alloc (Nat.le_refl _) _).trans (HO2.out.below (Nat.le_refl _)))) (regA_size _) Tryd.sizeReg ?_; intro w5 hq ho))
    exact bodyPost_ret (v := .tuple #[.agg (regA reg0), .int .i64 1]) (results_reg2 Tryd.results17 _ _ w.heap.size 54 reg0 _ _ rfl rfl hq Tryd.underlying54 rfl Tryd.sizeReg) rfl ⟨by rw [HE.out], (HW1.out.trans ((((Below.refl _ w1).alloc (Nat.le_refl _) _).trans (HO2.out.below (Nat.le_refl _))).mono HW1.out.size)).trans (ho.below (Nat.le_refl _))⟩
  · go_wp2_with (first | (refine wpList_store_reg rfl 54 _ _ rfl w1.heap.size z1 rfl rfl 54 (regA reg0) (heap_alloc_new w1 _) (regA_size _) Tryd.sizeReg ?_; intro w2 hq ho) | fail)
    have HQ := hide hq
    have HB2 : Hid (Below w1.heap.size w1 w2) := ((Below.refl _ w1).alloc (Nat.le_refl _) _).trans (ho.below (Nat.le_refl _))
    clear hq ho
    go_loopw [7, 8] (fun ok i wr => ∃ (k : Nat) (y : Nat → Int), k ≤ l.length ∧ i = .int .i64 k ∧ ok = .bool true ∧ Dom y ∧ RegAt wr w1.heap.size 54 y ∧ Below w1.heap.size w1 wr ∧ foldB z1 l = foldB y (l.drop k)) (fun _ i _ => l.length - (intOf i).toNat)
    case atStart => exact ⟨0, z1, Nat.zero_le _, rfl, rfl, HDZ1.out, HQ.out, HB2.out, rfl⟩
    case round =>
      clear HQ HB2
      obtain ⟨k, y, hk, rfl, rfl, hdy, hy, hbw, hgf⟩ := hrel
      have HDY := hide hdy
      have HY := hide hy
      have HBW := hide hbw
      have HGW := hide hgf
      clear hdy hy hbw hgf
      by_cases hend : k = l.length
      · have HE : Hid (foldR g n l = (y, 0)) := foldR_good g n l y (by rw [HGE.out]) (by rw [HGE.out]; show foldB z1 l = some y; rw [HGW.out, hend, List.drop_length]; rfl)
        subst hend
        have HR4 := hide (HR1'.out.below HBW.out)
        go_wp2_with (first | (refine wpList_load_reg rfl 54 _ rfl _ rfl 54 y _ HY.out Tryd.underlying54 rfl Tryd.sizeReg ?_) | (refine wpList_store_reg rfl 54 _ _ rfl w.heap.size y rfl rfl 54 (regA reg0) HR4.out (regA_size _) Tryd.sizeReg ?_; intro w5 hq ho))
        exact bodyPost_ret (v := .tuple #[.agg (regA y), .int .i64 0]) (results_reg2 Tryd.results17 _ _ w.heap.size 54 y _ _ rfl rfl hq Tryd.underlying54 rfl Tryd.sizeReg) rfl ⟨by rw [HE.out], (HW1.out.trans (HBW.out.mono HW1.out.size)).trans (ho.below (Nat.le_refl _))⟩
      · have hkn : k < l.length := by omega
        obtain ⟨bl, ol, rfl, hbl0, hc⟩ := HL.out k hkn
        have hbl : bl < w1.heap.size := by omega
        have hkn2 : (k : Int) < l.length := by omega
        obtain ⟨t, ht⟩ : ∃ t, t = l.getD k ByteArray.empty := ⟨_, rfl⟩
        have HST : Hid (t.size < 4294967281) := by unfold Hid; rw [ht]; exact HS.out k hkn
        have hcr : wr.cell? ⟨bl, ol + k, none⟩ = some (.string t) := by rw [ht]; exact ((HBW.out.cell (p := ⟨bl, ol + k, none⟩) (by exact hbl)).trans (HW1.out.cell (p := ⟨bl, ol + k, none⟩) (by exact hbl0))).trans hc
        have hmx : l.length ≤ 9223372036854775807 := by have := HM.out; unfold maxLen at this; omega
        obtain ⟨z, hz⟩ : ∃ z, z = (behindR y t).1 := ⟨_, rfl⟩
        obtain ⟨o, ho⟩ : ∃ o, o = (behindR y t).2 := ⟨_, rfl⟩
        have HZ : Hid (behindR y t = (z, o)) := by unfold Hid; rw [hz, ho]
        have HDZ : Hid (Dom z) := by unfold Hid; rw [hz]; exact HDY.out.behind t
        have HGS : Hid (foldB z1 l = if o then foldB z (l.drop (k + 1)) else none) := by unfold Hid; rw [HGW.out]; exact foldB_step y l k hkn z o (by rw [← ht]; exact HZ.out)
        clear ht hc hz ho hend
        cases o
        · have HE : Hid (foldR g n l = (reg0, 12)) := foldR_bad g n l (by rw [HGE.out]) (by rw [HGE.out]; exact HGS.out)
          go_wp2_with fail
          refine wp_region_held_drew (S := fun W => W.cell? ⟨bl, ol + k, none⟩ = some (.string t)) (by kernel_rfl) hcr (fun hHeld => ?_)
          refine takeD 1 (some 25) (.slice (some ⟨bl, ol, none⟩) l.length lcap) rfl rfl (by kernel_rfl) (by kernel_rfl) (by kernel_rfl) (fun _ _ _ h => h) (Or.inl ⟨by rfl, ?_⟩) hHeld ?_
          · intro w hSw
            go_simp
          simp only [Act.put, List.setIfInBounds_toArray, List.set_cons_zero, List.set_cons_succ]
          refine takeD 2 (some 26) (.int .i64 (k : Int)) rfl rfl (by kernel_rfl) (by kernel_rfl) (by kernel_rfl) (fun _ _ _ h => h) (Or.inl ⟨by rfl, ?_⟩) hHeld ?_
          · intro w hSw
            go_simp
          simp only [Act.put, List.setIfInBounds_toArray, List.set_cons_zero, List.set_cons_succ]
          refine takeD 3 (some 27) (.pointer (some ⟨bl, ol + k, none⟩)) rfl rfl (by kernel_rfl) (by kernel_rfl) (by kernel_rfl) (fun _ _ _ h => h) (Or.inl ⟨by rfl, ?_⟩) hHeld ?_
          · intro w hSw
            go_simp
          simp only [Act.put, List.setIfInBounds_toArray, List.set_cons_zero, List.set_cons_succ]
          refine takeD 4 (some 28) (.string t) rfl rfl (by kernel_rfl) (by kernel_rfl) (by kernel_rfl) (fun _ _ _ h => h) (Or.inl ⟨by rfl, ?_⟩) hHeld ?_
          · intro w hSw
            go_simp
          simp only [Act.put, List.setIfInBounds_toArray, List.set_cons_zero, List.set_cons_succ]
          refine wpAnyH_ready (rs := [0]) (by kernel_rfl) (by simp) ?_
          refine AllReadyH.cons rfl (fun K hK => ?_) AllReadyH.nil
          rw [if_pos (by rfl)]
          refine wp_load_row 54 _ rfl w1.heap.size rfl 54 (regA y) (0, 0) _ HY.out.drew Tryd.underlying54 rfl (by rw [regA_size]; exact Tryd.sizeReg) ?_
          refine hK.out _ _ hHeld (fun hHeld => ?_)
          clear hK K
          refine wpAnyH_ready (rs := [5]) (by kernel_rfl) (by simp) ?_
          refine AllReadyH.cons rfl (fun K hK => ?_) AllReadyH.nil
          go_simp
          go_wp2_with ((go_at_call 42; refine (behind_at y t z false _ HDY.out HST.out HZ.out).mono ?_; rintro e w3 ⟨rfl, hb3⟩))
          have HB3 := hide hb3
          clear hb3
          refine hK.out _ _ ((HB3.out.cell (p := ⟨bl, ol + k, none⟩) (by have := HBW.out.size; exact Nat.lt_of_lt_of_le hbl this)).trans hHeld) (fun hHeld => ?_)
          clear hK K
          refine takeD 6 (some 23) (.tuple #[.agg (regA z), .bool false]) rfl rfl (by kernel_rfl) (by kernel_rfl) (by kernel_rfl) (fun _ _ _ h => h) (Or.inl ⟨by rfl, ?_⟩) hHeld ?_
          · intro w hSw
            go_simp
          simp only [Act.put, List.setIfInBounds_toArray, List.set_cons_zero, List.set_cons_succ]
          refine takeD 7 (some 30) (.agg (regA z)) rfl rfl (by kernel_rfl) (by kernel_rfl) (by kernel_rfl) (fun _ _ _ h => h) (Or.inl ⟨by rfl, ?_⟩) hHeld ?_
          · intro w hSw
            go_simp
          simp only [Act.put, List.setIfInBounds_toArray, List.set_cons_zero, List.set_cons_succ]
          refine takeD 8 (some 31) (.bool false) rfl rfl (by kernel_rfl) (by kernel_rfl) (by kernel_rfl) (fun _ _ _ h => h) (Or.inl ⟨by rfl, ?_⟩) hHeld ?_
          · intro w hSw
            go_simp
          simp only [Act.put, List.setIfInBounds_toArray, List.set_cons_zero, List.set_cons_succ]
          refine wpAnyH_ready (rs := [9]) (by kernel_rfl) (by simp) ?_
          refine AllReadyH.cons rfl (fun K hK => ?_) AllReadyH.nil
          rw [if_pos (by rfl)]
          refine wp_store_reg 54 _ _ rfl w1.heap.size z rfl rfl 54 (regA y) (HY.out.drew.below HB3.out) (regA_size _) Tryd.sizeReg ?_
          intro w4 hq ho
          have HQ := hide hq
          have HO4 := hide ho
          clear hq ho
          refine hK.out _ _ ((HO4.out.cell (p := ⟨bl, ol + k, none⟩) (by show bl ≠ w1.heap.size; omega)).trans hHeld) (fun hHeld => ?_)
          clear hK K
          refine wpAnyH_ready (rs := [10]) (by kernel_rfl) (by simp) ?_
          refine AllReadyH.cons rfl (fun K hK => ?_) AllReadyH.nil
          go_simp
          refine hK.out _ _ hHeld (fun hHeld => ?_)
          clear hK K
          have HB4 : Hid (Below w1.heap.size w1 w4) := (HBW.out.drew.trans (HB3.out.mono (by have := HBW.out.size; exact this))).trans (HO4.out.below (Nat.le_refl _))
          refine wpAnyH_done (by kernel_rfl) ?_ _
          have HR4 := hide (HR1'.out.below HB4.out)
          go_wp2_with (refine wpList_store_reg rfl 54 _ _ rfl w.heap.size reg0 rfl rfl 54 (regA reg0) HR4.out (regA_size _) Tryd.sizeReg ?_; intro w5 hq ho)
          exact bodyPost_ret (v := .tuple #[.agg (regA reg0), .int .i64 12]) (results_reg2 Tryd.results17 _ _ w.heap.size 54 reg0 _ _ rfl rfl hq Tryd.underlying54 rfl Tryd.sizeReg) rfl ⟨by rw [HE.out], (HW1.out.trans (HB4.out.mono HW1.out.size)).trans (ho.below (Nat.le_refl _))⟩
        · have HGN : Hid (foldB z1 l = foldB z (l.drop (k + 1))) := HGS.out
          go_wp2_with fail
          refine wp_region_held_drew (S := fun W => W.cell? ⟨bl, ol + k, none⟩ = some (.string t)) (by kernel_rfl) hcr (fun hHeld => ?_)
          refine takeD 1 (some 25) (.slice (some ⟨bl, ol, none⟩) l.length lcap) rfl rfl (by kernel_rfl) (by kernel_rfl) (by kernel_rfl) (fun _ _ _ h => h) (Or.inl ⟨by rfl, ?_⟩) hHeld ?_
          · intro w hSw
            go_simp
          simp only [Act.put, List.setIfInBounds_toArray, List.set_cons_zero, List.set_cons_succ]
          refine takeD 2 (some 26) (.int .i64 (k : Int)) rfl rfl (by kernel_rfl) (by kernel_rfl) (by kernel_rfl) (fun _ _ _ h => h) (Or.inl ⟨by rfl, ?_⟩) hHeld ?_
          · intro w hSw
            go_simp
          simp only [Act.put, List.setIfInBounds_toArray, List.set_cons_zero, List.set_cons_succ]
          refine takeD 3 (some 27) (.pointer (some ⟨bl, ol + k, none⟩)) rfl rfl (by kernel_rfl) (by kernel_rfl) (by kernel_rfl) (fun _ _ _ h => h) (Or.inl ⟨by rfl, ?_⟩) hHeld ?_
          · intro w hSw
            go_simp
          simp only [Act.put, List.setIfInBounds_toArray, List.set_cons_zero, List.set_cons_succ]
          refine takeD 4 (some 28) (.string t) rfl rfl (by kernel_rfl) (by kernel_rfl) (by kernel_rfl) (fun _ _ _ h => h) (Or.inl ⟨by rfl, ?_⟩) hHeld ?_
          · intro w hSw
            go_simp
          simp only [Act.put, List.setIfInBounds_toArray, List.set_cons_zero, List.set_cons_succ]
          refine wpAnyH_ready (rs := [0]) (by kernel_rfl) (by simp) ?_
          refine AllReadyH.cons rfl (fun K hK => ?_) AllReadyH.nil
          rw [if_pos (by rfl)]
          refine wp_load_row 54 _ rfl w1.heap.size rfl 54 (regA y) (0, 0) _ HY.out.drew Tryd.underlying54 rfl (by rw [regA_size]; exact Tryd.sizeReg) ?_
          refine hK.out _ _ hHeld (fun hHeld => ?_)
          clear hK K
          refine wpAnyH_ready (rs := [5]) (by kernel_rfl) (by simp) ?_
          refine AllReadyH.cons rfl (fun K hK => ?_) AllReadyH.nil
          go_simp
          go_wp2_with ((go_at_call 42; refine (behind_at y t z true _ HDY.out HST.out HZ.out).mono ?_; rintro e w3 ⟨rfl, hb3⟩))
          have HB3 := hide hb3
          clear hb3
          refine hK.out _ _ ((HB3.out.cell (p := ⟨bl, ol + k, none⟩) (by have := HBW.out.size; exact Nat.lt_of_lt_of_le hbl this)).trans hHeld) (fun hHeld => ?_)
          clear hK K
          refine takeD 6 (some 23) (.tuple #[.agg (regA z), .bool true]) rfl rfl (by kernel_rfl) (by kernel_rfl) (by kernel_rfl) (fun _ _ _ h => h) (Or.inl ⟨by rfl, ?_⟩) hHeld ?_
          · intro w hSw
            go_simp
          simp only [Act.put, List.setIfInBounds_toArray, List.set_cons_zero, List.set_cons_succ]
          refine takeD 7 (some 30) (.agg (regA z)) rfl rfl (by kernel_rfl) (by kernel_rfl) (by kernel_rfl) (fun _ _ _ h => h) (Or.inl ⟨by rfl, ?_⟩) hHeld ?_
          · intro w hSw
            go_simp
          simp only [Act.put, List.setIfInBounds_toArray, List.set_cons_zero, List.set_cons_succ]
          refine takeD 8 (some 31) (.bool true) rfl rfl (by kernel_rfl) (by kernel_rfl) (by kernel_rfl) (fun _ _ _ h => h) (Or.inl ⟨by rfl, ?_⟩) hHeld ?_
          · intro w hSw
            go_simp
          simp only [Act.put, List.setIfInBounds_toArray, List.set_cons_zero, List.set_cons_succ]
          refine wpAnyH_ready (rs := [9]) (by kernel_rfl) (by simp) ?_
          refine AllReadyH.cons rfl (fun K hK => ?_) AllReadyH.nil
          rw [if_pos (by rfl)]
          refine wp_store_reg 54 _ _ rfl w1.heap.size z rfl rfl 54 (regA y) (HY.out.drew.below HB3.out) (regA_size _) Tryd.sizeReg ?_
          intro w4 hq ho
          have HQ := hide hq
          have HO4 := hide ho
          clear hq ho
          refine hK.out _ _ ((HO4.out.cell (p := ⟨bl, ol + k, none⟩) (by show bl ≠ w1.heap.size; omega)).trans hHeld) (fun hHeld => ?_)
          clear hK K
          refine wpAnyH_ready (rs := [10]) (by kernel_rfl) (by simp) ?_
          refine AllReadyH.cons rfl (fun K hK => ?_) AllReadyH.nil
          go_simp
          refine hK.out _ _ hHeld (fun hHeld => ?_)
          clear hK K
          have HB4 : Hid (Below w1.heap.size w1 w4) := (HBW.out.drew.trans (HB3.out.mono (by have := HBW.out.size; exact this))).trans (HO4.out.below (Nat.le_refl _))
          refine wpAnyH_done (by kernel_rfl) ?_ _
          go_wp2
          go_roundw
          case rel => exact ⟨k + 1, z, by omega, by go_num, rfl, HDZ.out, HQ.out, HB4.out, HGN.out⟩
          case measure => simp [intOf]; omega

end Go.Proofs.YtcfjhbcpjpgodaaDoor
