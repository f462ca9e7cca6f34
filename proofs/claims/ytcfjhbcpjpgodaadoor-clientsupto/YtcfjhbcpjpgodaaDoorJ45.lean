/- Proved here: what the document's Fold answers at every genesis and every list of blocks. · Proved here: what the program's Fold answers. · Proved here: the law's kept says yes where a copy with marks reads as it was made. · Proved here: a copy with room behind it, made ready for the looks that follow; what Fold leaves, in one form. -/
import Derived.Test.YtcfjhbcpjpgodaaDoorJ21
import Derived.Test.YtcfjhbcpjpgodaaDoorProgTell
import Derived.Test.YtcfjhbcpjpgodaaDoorRoomy
import Derived.Test.YtcfjhbcpjpgodaaDoorJ41
import Derived.Test.YtcfjhbcpjpgodaaDoorJ6
namespace Go.Proofs.YtcfjhbcpjpgodaaDoor
open Go.RowKit

/-- The registry behind blocks, one after another; none: one of them is not good. -/
def foldB : (Nat → Int) → List ByteArray → Option (Nat → Int)
  | x, [] => some x
  | x, t :: l => if (behindR x t).2 then foldB (behindR x t).1 l else none
/-- The registry behind all, and the error. -/
def foldR (g : Nat → Int) (n : Nat) (l : List ByteArray) : (Nat → Int) × Int :=
  if (genR g n).2 then (match foldB (genR g n).1 l with | some y => (y, 0) | none => (reg0, 12)) else (reg0, 1)

theorem foldR_arg (g : Nat → Int) (n : Nat) (l : List ByteArray) (h : (genR g n).2 = false) : foldR g n l = (reg0, 1) := by unfold foldR; rw [h]; rfl
theorem foldR_bad (g : Nat → Int) (n : Nat) (l : List ByteArray) (h : (genR g n).2 = true) (h2 : foldB (genR g n).1 l = none) : foldR g n l = (reg0, 12) := by unfold foldR; rw [h, h2]; rfl
theorem foldR_good (g : Nat → Int) (n : Nat) (l : List ByteArray) (y : Nat → Int) (h : (genR g n).2 = true) (h2 : foldB (genR g n).1 l = some y) : foldR g n l = (y, 0) := by unfold foldR; rw [h, h2]; rfl
theorem foldB_step (y : Nat → Int) (l : List ByteArray) (k : Nat) (hk : k < l.length) (z : Nat → Int) (o : Bool) (h : behindR y (l.getD k ByteArray.empty) = (z, o)) : foldB y (l.drop k) = if o then foldB z (l.drop (k + 1)) else none := by
  have e : l.drop k = l.getD k ByteArray.empty :: l.drop (k + 1) := by
    rw [List.drop_eq_getElem_cons hk, List.getD_eq_getElem?_getD, List.getElem?_eq_getElem hk]
    rfl
  rw [e, foldB, h]

set_option maxRecDepth 100000 in
set_option maxHeartbeats 3200000 in
theorem fold_any (g : Nat → Int) (p : Option Addr) (n cap : Nat) (l : List ByteArray) (lp : Option Addr) (lcap : Nat) (w : World) (hg : Lies w w.heap.size p n (fun i => .int .i64 (g i)))
    (hl : Lies w w.heap.size lp l.length (fun i => .string (l.getD i ByteArray.empty))) (hm : l.length ≤ maxLen) (hs : ∀ i, i < l.length → (l.getD i ByteArray.empty).size < 4294967281) :
    Calls Tryd.prog 17 #[.slice p n cap, .slice lp l.length lcap] w fun e w' => e = .returned (.tuple #[.agg (regA (foldR g n l).1), .int .i64 (foldR g n l).2]) ∧ Below w.heap.size w w' := by
  have z0 := regA_zero
  obtain ⟨z1, hz1⟩ : ∃ z, z = (genR g n).1 := ⟨_, rfl⟩
  obtain ⟨o1, ho1⟩ : ∃ o, o = (genR g n).2 := ⟨_, rfl⟩
  have HGE : Hid (genR g n = (z1, o1)) := by unfold Hid; rw [hz1, ho1]
  have HDZ1 : Hid (Dom z1) := by unfold Hid; rw [hz1]; exact Dom.gen g n
  clear hz1 ho1
  have HG := hide hg
  have HL := hide hl
  have HM := hide hm
  have HS := hide hs
  clear hg hl hm hs
  have HR0 := hide (RegAt.alloc w 54 reg0)
  go_enter Tryd.func17, Tryd.ntmps17
  go_wp2_with fail
  refine (genesis_at g p n cap z1 o1 _ ((HG.out.below ((Below.refl _ w).alloc (Nat.le_refl _) _)).more (by simp)) HGE.out).mono ?_
  rintro e w1 ⟨rfl, hb1⟩
  have HR1' := hide (HR0.out.below hb1)
  have HW1 : Hid (Below w.heap.size w w1) := ((Below.refl _ w).alloc (Nat.le_refl _) _).trans (hb1.mono (by simp))
  have hsz : w.heap.size + 1 ≤ w1.heap.size := by have := hb1.size; simpa using this
  clear hb1 HR0
  cases o1
  · have HE := hide (foldR_arg g n l (by rw [HGE.out]))
    go_wp2_with (first | (refine wpList_store_reg rfl 54 _ _ rfl w1.heap.size z1 rfl rfl 54 (regA reg0) (heap_alloc_new w1 _) (regA_size _) Tryd.sizeReg ?_; intro w2 hq ho; have HO2 := hide ho; clear hq ho) | (refine wpList_store_reg rfl 54 _ _ rfl w.heap.size reg0 rfl rfl 54 (regA reg0) (HR1'.out.below (((Below.refl _ w1).alloc (Nat.le_refl _) _).trans (HO2.out.below (Nat.le_refl _)))) (regA_size _) Tryd.sizeReg ?_; intro w5 hq ho))
    exact bodyPost_ret (v := .tuple #[.agg (regA reg0), .int .i64 1]) (results_reg2 Tryd.results17 _ _ w.heap.size 54 reg0 _ _ rfl rfl hq Tryd.underlying54 rfl Tryd.sizeReg) rfl ⟨by rw [HE.out], (HW1.out.trans ((((Below.refl _ w1).alloc (Nat.le_refl _) _).trans (HO2.out.below (Nat.le_refl _))).mono HW1.out.size)).trans (ho.below (Nat.le_refl _))⟩
  · go_wp2_with (first | (refine wpList_store_reg rfl 54 _ _ rfl w1.heap.size z1 rfl rfl 54 (regA reg0) (heap_alloc_new w1 _) (regA_size _) Tryd.sizeReg ?_; intro w2 hq ho) | fail)
    have HQ := hide hq
    have HB2 : Hid (Below w1.heap.size w1 w2) := ((Below.refl _ w1).alloc (Nat.le_refl _) _).trans (ho.below (Nat.le_refl _))
    clear hq ho
    go_loopw [7, 8] (fun ok i wr => ∃ (k : Nat) (y : Nat → Int), k ≤ l.length ∧ i = .int .i64 k ∧ ok = .bool true ∧ Dom y ∧ RegAt wr w1.heap.size 54 y ∧ Below w1.heap.size w1 wr ∧ foldB z1 l = foldB y (l.drop k)) (fun _ i _ => l.length - (intOf i).toNat)
    case atStart => exact ⟨0, z1, Nat.zero_le _, rfl, rfl, HDZ1.out, HQ.out, HB2.out, rfl⟩
    case round =>
      clear HQ HB2
      obtain ⟨k, y, hk, rfl, rfl, hdy, hy, hbw, hgf⟩ := hrel
      have HDY := hide hdy
      have HY := hide hy
      have HBW := hide hbw
      have HGW := hide hgf
      clear hdy hy hbw hgf
      by_cases hend : k = l.length
      · have HE : Hid (foldR g n l = (y, 0)) := foldR_good g n l y (by rw [HGE.out]) (by rw [HGE.out]; show foldB z1 l = some y; rw [HGW.out, hend, List.drop_length]; rfl)
        subst hend
        have HR4 := hide (HR1'.out.below HBW.out)
        go_wp2_with (first | (refine wpList_load_reg rfl 54 _ rfl _ rfl 54 y _ HY.out Tryd.underlying54 rfl Tryd.sizeReg ?_) | (refine wpList_store_reg rfl 54 _ _ rfl w.heap.size y rfl rfl 54 (regA reg0) HR4.out (regA_size _) Tryd.sizeReg ?_; intro w5 hq ho))
        exact bodyPost_ret (v := .tuple #[.agg (regA y), .int .i64 0]) (results_reg2 Tryd.results17 _ _ w.heap.size 54 y _ _ rfl rfl hq Tryd.underlying54 rfl Tryd.sizeReg) rfl ⟨by rw [HE.out], (HW1.out.trans (HBW.out.mono HW1.out.size)).trans (ho.below (Nat.le_refl _))⟩
      · have hkn : k < l.length := by omega
        obtain ⟨bl, ol, rfl, hbl0, hc⟩ := HL.out k hkn
        have hbl : bl < w1.heap.size := by omega
        have hkn2 : (k : Int) < l.length := by omega
        obtain ⟨t, ht⟩ : ∃ t, t = l.getD k ByteArray.empty := ⟨_, rfl⟩
        have HST : Hid (t.size < 4294967281) := by unfold Hid; rw [ht]; exact HS.out k hkn
        have hcr : wr.cell? ⟨bl, ol + k, none⟩ = some (.string t) := by rw [ht]; exact ((HBW.out.cell (p := ⟨bl, ol + k, none⟩) (by exact hbl)).trans (HW1.out.cell (p := ⟨bl, ol + k, none⟩) (by exact hbl0))).trans hc
        have hmx : l.length ≤ 9223372036854775807 := by have := HM.out; unfold maxLen at this; omega
        obtain ⟨z, hz⟩ : ∃ z, z = (behindR y t).1 := ⟨_, rfl⟩
        obtain ⟨o, ho⟩ : ∃ o, o = (behindR y t).2 := ⟨_, rfl⟩
        have HZ : Hid (behindR y t = (z, o)) := by unfold Hid; rw [hz, ho]
        have HDZ : Hid (Dom z) := by unfold Hid; rw [hz]; exact HDY.out.behind t
        have HGS : Hid (foldB z1 l = if o then foldB z (l.drop (k + 1)) else none) := by unfold Hid; rw [HGW.out]; exact foldB_step y l k hkn z o (by rw [← ht]; exact HZ.out)
        clear ht hc hz ho hend
        cases o
        · have HE : Hid (foldR g n l = (reg0, 12)) := foldR_bad g n l (by rw [HGE.out]) (by rw [HGE.out]; exact HGS.out)
          go_wp2_with fail
          refine wp_region_held_drew (S := fun W => W.cell? ⟨bl, ol + k, none⟩ = some (.string t)) (by kernel_rfl) hcr (fun hHeld => ?_)
          refine takeD 1 (some 25) (.slice (some ⟨bl, ol, none⟩) l.length lcap) rfl rfl (by kernel_rfl) (by kernel_rfl) (by kernel_rfl) (fun _ _ _ h => h) (Or.inl ⟨by rfl, ?_⟩) hHeld ?_
          · intro w hSw
            go_simp
          simp only [Act.put, List.setIfInBounds_toArray, List.set_cons_zero, List.set_cons_succ]
          refine takeD 2 (some 26) (.int .i64 (k : Int)) rfl rfl (by kernel_rfl) (by kernel_rfl) (by kernel_rfl) (fun _ _ _ h => h) (Or.inl ⟨by rfl, ?_⟩) hHeld ?_
          · intro w hSw
            go_simp
          simp only [Act.put, List.setIfInBounds_toArray, List.set_cons_zero, List.set_cons_succ]
          refine takeD 3 (some 27) (.pointer (some ⟨bl, ol + k, none⟩)) rfl rfl (by kernel_rfl) (by kernel_rfl) (by kernel_rfl) (fun _ _ _ h => h) (Or.inl ⟨by rfl, ?_⟩) hHeld ?_
          · intro w hSw
            go_simp
          simp only [Act.put, List.setIfInBounds_toArray, List.set_cons_zero, List.set_cons_succ]
          refine takeD 4 (some 28) (.string t) rfl rfl (by kernel_rfl) (by kernel_rfl) (by kernel_rfl) (fun _ _ _ h => h) (Or.inl ⟨by rfl, ?_⟩) hHeld ?_
          · intro w hSw
            go_simp
          simp only [Act.put, List.setIfInBounds_toArray, List.set_cons_zero, List.set_cons_succ]
          refine wpAnyH_ready (rs := [0]) (by kernel_rfl) (by simp) ?_
          refine AllReadyH.cons rfl (fun K hK => ?_) AllReadyH.nil
          rw [if_pos (by rfl)]
          refine wp_load_row 54 _ rfl w1.heap.size rfl 54 (regA y) (0, 0) _ HY.out.drew Tryd.underlying54 rfl (by rw [regA_size]; exact Tryd.sizeReg) ?_
          refine hK.out _ _ hHeld (fun hHeld => ?_)
          clear hK K
          refine wpAnyH_ready (rs := [5]) (by kernel_rfl) (by simp) ?_
          refine AllReadyH.cons rfl (fun K hK => ?_) AllReadyH.nil
          go_simp
          go_wp2_with ((go_at_call 42; refine (behind_at y t z false _ HDY.out HST.out HZ.out).mono ?_; rintro e w3 ⟨rfl, hb3⟩))
          have HB3 := hide hb3
          clear hb3
          refine hK.out _ _ ((HB3.out.cell (p := ⟨bl, ol + k, none⟩) (by have := HBW.out.size; exact Nat.lt_of_lt_of_le hbl this)).trans hHeld) (fun hHeld => ?_)
          clear hK K
          refine takeD 6 (some 23) (.tuple #[.agg (regA z), .bool false]) rfl rfl (by kernel_rfl) (by kernel_rfl) (by kernel_rfl) (fun _ _ _ h => h) (Or.inl ⟨by rfl, ?_⟩) hHeld ?_
          · intro w hSw
            go_simp
          simp only [Act.put, List.setIfInBounds_toArray, List.set_cons_zero, List.set_cons_succ]
          refine takeD 7 (some 30) (.agg (regA z)) rfl rfl (by kernel_rfl) (by kernel_rfl) (by kernel_rfl) (fun _ _ _ h => h) (Or.inl ⟨by rfl, ?_⟩) hHeld ?_
          · intro w hSw
            go_simp
          simp only [Act.put, List.setIfInBounds_toArray, List.set_cons_zero, List.set_cons_succ]
          refine takeD 8 (some 31) (.bool false) rfl rfl (by kernel_rfl) (by kernel_rfl) (by kernel_rfl) (fun _ _ _ h => h) (Or.inl ⟨by rfl, ?_⟩) hHeld ?_
          · intro w hSw
            go_simp
          simp only [Act.put, List.setIfInBounds_toArray, List.set_cons_zero, List.set_cons_succ]
          refine wpAnyH_ready (rs := [9]) (by kernel_rfl) (by simp) ?_
          refine AllReadyH.cons rfl (fun K hK => ?_) AllReadyH.nil
          rw [if_pos (by rfl)]
          refine wp_store_reg 54 _ _ rfl w1.heap.size z rfl rfl 54 (regA y) (HY.out.drew.below HB3.out) (regA_size _) Tryd.sizeReg ?_
          intro w4 hq ho
          have HQ := hide hq
          have HO4 := hide ho
          clear hq ho
          refine hK.out _ _ ((HO4.out.cell (p := ⟨bl, ol + k, none⟩) (by show bl ≠ w1.heap.size; omega)).trans hHeld) (fun hHeld => ?_)
          clear hK K
          refine wpAnyH_ready (rs := [10]) (by kernel_rfl) (by simp) ?_
          refine AllReadyH.cons rfl (fun K hK => ?_) AllReadyH.nil
          go_simp
          refine hK.out _ _ hHeld (fun hHeld => ?_)
          clear hK K
          have HB4 : Hid (Below w1.heap.size w1 w4) := (HBW.out.drew.trans (HB3.out.mono (by have := HBW.out.size; exact this))).trans (HO4.out.below (Nat.le_refl _))
          refine wpAnyH_done (by kernel_rfl) ?_ _
          have HR4 := hide (HR1'.out.below HB4.out)
          go_wp2_with (refine wpList_store_reg rfl 54 _ _ rfl w.heap.size reg0 rfl rfl 54 (regA reg0) HR4.out (regA_size _) Tryd.sizeReg ?_; intro w5 hq ho)
          exact bodyPost_ret (v := .tuple #[.agg (regA reg0), .int .i64 12]) (results_reg2 Tryd.results17 _ _ w.heap.size 54 reg0 _ _ rfl rfl hq Tryd.underlying54 rfl Tryd.sizeReg) rfl ⟨by rw [HE.out], (HW1.out.trans (HB4.out.mono HW1.out.size)).trans (ho.below (Nat.le_refl _))⟩
        · have HGN : Hid (foldB z1 l = foldB z (l.drop (k + 1))) := HGS.out
          go_wp2_with fail
          refine wp_region_held_drew (S := fun W => W.cell? ⟨bl, ol + k, none⟩ = some (.string t)) (by kernel_rfl) hcr (fun hHeld => ?_)
          refine takeD 1 (some 25) (.slice (some ⟨bl, ol, none⟩) l.length lcap) rfl rfl (by kernel_rfl) (by kernel_rfl) (by kernel_rfl) (fun _ _ _ h => h) (Or.inl ⟨by rfl, ?_⟩) hHeld ?_
          · intro w hSw
            go_simp
          simp only [Act.put, List.setIfInBounds_toArray, List.set_cons_zero, List.set_cons_succ]
          refine takeD 2 (some 26) (.int .i64 (k : Int)) rfl rfl (by kernel_rfl) (by kernel_rfl) (by kernel_rfl) (fun _ _ _ h => h) (Or.inl ⟨by rfl, ?_⟩) hHeld ?_
          · intro w hSw
            go_simp
          simp only [Act.put, List.setIfInBounds_toArray, List.set_cons_zero, List.set_cons_succ]
          refine takeD 3 (some 27) (.pointer (some ⟨bl, ol + k, none⟩)) rfl rfl (by kernel_rfl) (by kernel_rfl) (by kernel_rfl) (fun _ _ _ h => h) (Or.inl ⟨by rfl, ?_⟩) hHeld ?_
          · intro w hSw
            go_simp
          simp only [Act.put, List.setIfInBounds_toArray, List.set_cons_zero, List.set_cons_succ]
          refine takeD 4 (some 28) (.string t) rfl rfl (by kernel_rfl) (by kernel_rfl) (by kernel_rfl) (fun _ _ _ h => h) (Or.inl ⟨by rfl, ?_⟩) hHeld ?_
          · intro w hSw
            go_simp
          simp only [Act.put, List.setIfInBounds_toArray, List.set_cons_zero, List.set_cons_succ]
          refine wpAnyH_ready (rs := [0]) (by kernel_rfl) (by simp) ?_
          refine AllReadyH.cons rfl (fun K hK => ?_) AllReadyH.nil
          rw [if_pos (by rfl)]
          refine wp_load_row 54 _ rfl w1.heap.size rfl 54 (regA y) (0, 0) _ HY.out.drew Tryd.underlying54 rfl (by rw [regA_size]; exact Tryd.sizeReg) ?_
          refine hK.out _ _ hHeld (fun hHeld => ?_)
          clear hK K
          refine wpAnyH_ready (rs := [5]) (by kernel_rfl) (by simp) ?_
          refine AllReadyH.cons rfl (fun K hK => ?_) AllReadyH.nil
          go_simp
          go_wp2_with ((go_at_call 42; refine (behind_at y t z true _ HDY.out HST.out HZ.out).mono ?_; rintro e w3 ⟨rfl, hb3⟩))
          have HB3 := hide hb3
          clear hb3
          refine hK.out _ _ ((HB3.out.cell (p := ⟨bl, ol + k, none⟩) (by have := HBW.out.size; exact Nat.lt_of_lt_of_le hbl this)).trans hHeld) (fun hHeld => ?_)
          clear hK K
          refine takeD 6 (some 23) (.tuple #[.agg (regA z), .bool true]) rfl rfl (by kernel_rfl) (by kernel_rfl) (by kernel_rfl) (fun _ _ _ h => h) (Or.inl ⟨by rfl, ?_⟩) hHeld ?_
          · intro w hSw
            go_simp
          simp only [Act.put, List.setIfInBounds_toArray, List.set_cons_zero, List.set_cons_succ]
          refine takeD 7 (some 30) (.agg (regA z)) rfl rfl (by kernel_rfl) (by kernel_rfl) (by kernel_rfl) (fun _ _ _ h => h) (Or.inl ⟨by rfl, ?_⟩) hHeld ?_
          · intro w hSw
            go_simp
          simp only [Act.put, List.setIfInBounds_toArray, List.set_cons_zero, List.set_cons_succ]
          refine takeD 8 (some 31) (.bool true) rfl rfl (by kernel_rfl) (by kernel_rfl) (by kernel_rfl) (fun _ _ _ h => h) (Or.inl ⟨by rfl, ?_⟩) hHeld ?_
          · intro w hSw
            go_simp
          simp only [Act.put, List.setIfInBounds_toArray, List.set_cons_zero, List.set_cons_succ]
          refine wpAnyH_ready (rs := [9]) (by kernel_rfl) (by simp) ?_
          refine AllReadyH.cons rfl (fun K hK => ?_) AllReadyH.nil
          rw [if_pos (by rfl)]
          refine wp_store_reg 54 _ _ rfl w1.heap.size z rfl rfl 54 (regA y) (HY.out.drew.below HB3.out) (regA_size _) Tryd.sizeReg ?_
          intro w4 hq ho
          have HQ := hide hq
          have HO4 := hide ho
          clear hq ho
          refine hK.out _ _ ((HO4.out.cell (p := ⟨bl, ol + k, none⟩) (by show bl ≠ w1.heap.size; omega)).trans hHeld) (fun hHeld => ?_)
          clear hK K
          refine wpAnyH_ready (rs := [10]) (by kernel_rfl) (by simp) ?_
          refine AllReadyH.cons rfl (fun K hK => ?_) AllReadyH.nil
          go_simp
          refine hK.out _ _ hHeld (fun hHeld => ?_)
          clear hK K
          have HB4 : Hid (Below w1.heap.size w1 w4) := (HBW.out.drew.trans (HB3.out.mono (by have := HBW.out.size; exact this))).trans (HO4.out.below (Nat.le_refl _))
          refine wpAnyH_done (by kernel_rfl) ?_ _
          go_wp2
          go_roundw
          case rel => exact ⟨k + 1, z, by omega, by go_num, rfl, HDZ.out, HQ.out, HB4.out, HGN.out⟩
          case measure => simp [intOf]; omega

end Go.Proofs.YtcfjhbcpjpgodaaDoor
namespace Go.Proofs.YtcfjhbcpjpgodaaDoor
open Go.RowKit

theorem genP_yes (g : Nat → Int) (p : Option Addr) (n cap : Nat) (b : Addr) (z : Nat → Int) (w : World) (hl : Lies w w.heap.size p n (fun i => .int .i64 (g i))) (hg : w.cell? ⟨0, 0, none⟩ = some (.iface 188 (.pointer (some b)))) (h : genR g n = (z, true)) :
    Calls Tryd.prog 39 #[.slice p n cap] w fun e w' => e = .returned (.tuple #[.agg (regA z), .nilIface]) ∧ Below w.heap.size w w' := by
  have := genP_any g p n cap b w hl hg
  rw [h] at this
  exact this
theorem genP_no (g : Nat → Int) (p : Option Addr) (n cap : Nat) (b : Addr) (z : Nat → Int) (w : World) (hl : Lies w w.heap.size p n (fun i => .int .i64 (g i))) (hg : w.cell? ⟨0, 0, none⟩ = some (.iface 188 (.pointer (some b)))) (h : genR g n = (z, false)) :
    Calls Tryd.prog 39 #[.slice p n cap] w fun e w' => e = .returned (.tuple #[.agg (regA reg0), .iface 188 (.pointer (some b))]) ∧ Below w.heap.size w w' := by
  have := genP_any g p n cap b w hl hg
  rw [h] at this
  exact this
theorem behindP_yes (x : Nat → Int) (s : ByteArray) (b : Addr) (m : Int) (z : Nat → Int) (w : World) (hx : Dom x) (hs : s.size < 4294967281) (hg : w.cell? ⟨11, 0, none⟩ = some (.iface 188 (.pointer (some b)))) (hm : w.cell? ⟨13, 0, none⟩ = some (.int .i64 m)) (h : behindR x s = (z, true)) :
    Calls Tryd.prog 40 #[.agg (regA x), .string s] w fun e w' => e = .returned (.tuple #[.agg (regA z), .nilIface]) ∧ Below w.heap.size w w' := by
  have := behindP_any x s b m w hx hs hg hm
  rw [h] at this
  exact this
theorem behindP_no (x : Nat → Int) (s : ByteArray) (b : Addr) (m : Int) (z : Nat → Int) (w : World) (hx : Dom x) (hs : s.size < 4294967281) (hg : w.cell? ⟨11, 0, none⟩ = some (.iface 188 (.pointer (some b)))) (hm : w.cell? ⟨13, 0, none⟩ = some (.int .i64 m)) (h : behindR x s = (z, false)) :
    Calls Tryd.prog 40 #[.agg (regA x), .string s] w fun e w' => e = .returned (.tuple #[.agg (regA reg0), .iface 188 (.pointer (some b))]) ∧ Below w.heap.size w w' := by
  have := behindP_any x s b m w hx hs hg hm
  rw [h] at this
  exact this

/-- What Fold leaves: the registry told, or nothing and the error. -/
def FoldP (f : (Nat → Int) × Int) (a1 a12 : Addr) (w : World) (e : Ending) (w' : World) : Prop :=
  Below w.heap.size w w' ∧
    ((f.2 = 0 ∧ ∃ p r, e = .returned (.tuple #[.agg #[p, .string (nameB (memb f.1 26)), r], .nilIface]) ∧ w'.ownsRow w.heap.size 3 1 p 8 (powL f.1 8) ∧ w'.ownsRow w.heap.size 3 1 r (memb f.1 26).length (roleL f.1 (memb f.1 26)) ∧ ∀ g, p.ownBlock = some g → r.ownBlock ≠ some g) ∨
     (f.2 = 1 ∧ e = .returned (.tuple #[.agg #[.slice none 0 0, .string ⟨#[]⟩, .slice none 0 0], .iface 188 (.pointer (some a1))])) ∨ (f.2 = 12 ∧ e = .returned (.tuple #[.agg #[.slice none 0 0, .string ⟨#[]⟩, .slice none 0 0], .iface 188 (.pointer (some a12))])))

theorem FoldP.arg {y : Nat → Int} {a1 a12 : Addr} {w w' : World} (h : Below w.heap.size w w') : FoldP (y, 1) a1 a12 w (.returned (.tuple #[.agg #[.slice none 0 0, .string ⟨#[]⟩, .slice none 0 0], .iface 188 (.pointer (some a1))])) w' := ⟨h, Or.inr (Or.inl ⟨rfl, rfl⟩)⟩
theorem FoldP.bad {y : Nat → Int} {a1 a12 : Addr} {w w' : World} (h : Below w.heap.size w w') : FoldP (y, 12) a1 a12 w (.returned (.tuple #[.agg #[.slice none 0 0, .string ⟨#[]⟩, .slice none 0 0], .iface 188 (.pointer (some a12))])) w' := ⟨h, Or.inr (Or.inr ⟨rfl, rfl⟩)⟩

set_option maxRecDepth 100000 in
set_option maxHeartbeats 3200000 in
theorem foldP_any (g : Nat → Int) (p : Option Addr) (n cap : Nat) (l : List ByteArray) (lp : Option Addr) (lcap : Nat) (a1 a12 : Addr) (m : Int) (w : World) (hg : Lies w w.heap.size p n (fun i => .int .i64 (g i)))
    (hl : Lies w w.heap.size lp l.length (fun i => .string (l.getD i ByteArray.empty))) (hm : l.length ≤ maxLen) (hs : ∀ i, i < l.length → (l.getD i ByteArray.empty).size < 4294967281)
    (h1 : w.cell? ⟨0, 0, none⟩ = some (.iface 188 (.pointer (some a1)))) (h12 : w.cell? ⟨11, 0, none⟩ = some (.iface 188 (.pointer (some a12)))) (hmx : w.cell? ⟨13, 0, none⟩ = some (.int .i64 m)) :
    Calls Tryd.prog 16 #[.slice p n cap, .slice lp l.length lcap] w (FoldP (foldR g n l) a1 a12 w) := by
  have z0 := regA_zero
  obtain ⟨z1, hz1⟩ : ∃ z, z = (genR g n).1 := ⟨_, rfl⟩
  obtain ⟨o1, ho1⟩ : ∃ o, o = (genR g n).2 := ⟨_, rfl⟩
  have HGE : Hid (genR g n = (z1, o1)) := by unfold Hid; rw [hz1, ho1]
  have HDZ1 : Hid (Dom z1) := by unfold Hid; rw [hz1]; exact Dom.gen g n
  clear hz1 ho1
  have HG := hide hg
  have HL := hide hl
  have HM := hide hm
  have HS := hide hs
  have H1 := hide h1
  have H12 := hide h12
  have HMX := hide hmx
  have hl12 : 11 < w.heap.size := World.block_lt_of_cell? _ _ h12
  have hl1 : 0 < w.heap.size := World.block_lt_of_cell? _ _ h1
  have hlx : 13 < w.heap.size := World.block_lt_of_cell? _ _ hmx
  clear hg hl hm hs h1 h12 hmx
  have HT0 : Hid (ToldAt (w.alloc (.cells #[.slice none 0 0, .string ⟨#[]⟩, .slice none 0 0] 48)) w.heap.size (.slice none 0 0) ByteArray.empty (.slice none 0 0)) := heap_alloc_new w _
  have HB0 : Hid (Below w.heap.size w (w.alloc (.cells #[.slice none 0 0, .string ⟨#[]⟩, .slice none 0 0] 48))) := (Below.refl _ w).alloc (Nat.le_refl _) _
  have hsz0 : (w.alloc (.cells #[.slice none 0 0, .string ⟨#[]⟩, .slice none 0 0] 48)).heap.size = w.heap.size + 1 := by simp
  cases o1 with
  | false =>
    have HE := hide (foldR_arg g n l (by rw [HGE.out]))
    have HC := hide (genP_no g p n cap a1 z1 (w.alloc (.cells #[.slice none 0 0, .string ⟨#[]⟩, .slice none 0 0] 48)) ((HG.out.below HB0.out).more (by rw [hsz0]; omega)) ((HB0.out.cell (p := ⟨0, 0, none⟩) (by exact hl1)).trans H1.out) HGE.out)
    go_enter Tryd.func16, Tryd.ntmps16
    go_wp2_with fail
    refine HC.out.mono ?_
    rintro e w1 ⟨rfl, hb1⟩
    rw [hsz0] at hb1
    have HT1 := hide (HT0.out.block (hb1.block w.heap.size (by omega)))
    have HB1 : Hid (Below w.heap.size w w1) := HB0.out.trans (hb1.mono (by omega))
    have hsz1 : w.heap.size + 1 ≤ w1.heap.size := by have := hb1.size; rw [hsz0] at this; exact this
    clear hb1 HC HT0
    go_wp2_with (first | (refine wpList_store_reg rfl 92 _ _ rfl w1.heap.size reg0 rfl rfl 92 (regA reg0) (heap_alloc_new w1 _) (regA_size _) Tryd.sizeRegistry ?_; intro w2 hq2 ho2; have HO2 := hide ho2; clear hq2 ho2) | (refine wpList_store_rowG rfl 48 _ _ rfl w.heap.size #[.slice none 0 0, .string ⟨#[]⟩, .slice none 0 0] rfl rfl 48 #[.slice none 0 0, .string ⟨#[]⟩, .slice none 0 0] (HT1.out.block ((((Below.refl _ w1).alloc (Nat.le_refl _) _).trans (HO2.out.below (Nat.le_refl _))).block w.heap.size (by omega))) rfl (by simp [Value.oneCell']) Tryd.sizeTold ?_; intro w9 hq ho))
    exact bodyPost_ret (v := .tuple #[.agg #[.slice none 0 0, .string ⟨#[]⟩, .slice none 0 0], .iface 188 (.pointer (some a1))]) (results_row2 Tryd.results16 _ _ w.heap.size 48 _ _ _ rfl rfl hq Tryd.underlying48 rfl Tryd.sizeTold) rfl (by rw [HE.out]; exact FoldP.arg ((HB1.out.trans ((((Below.refl _ w1).alloc (Nat.le_refl _) _).trans (HO2.out.below (Nat.le_refl _))).mono (by omega))).trans (ho.below (Nat.le_refl _))))
  | true =>
    have HC := hide (genP_yes g p n cap a1 z1 (w.alloc (.cells #[.slice none 0 0, .string ⟨#[]⟩, .slice none 0 0] 48)) ((HG.out.below HB0.out).more (by rw [hsz0]; omega)) ((HB0.out.cell (p := ⟨0, 0, none⟩) (by exact hl1)).trans H1.out) HGE.out)
    go_enter Tryd.func16, Tryd.ntmps16
    go_wp2_with fail
    refine HC.out.mono ?_
    rintro e w1 ⟨rfl, hb1⟩
    rw [hsz0] at hb1
    have HT1 := hide (HT0.out.block (hb1.block w.heap.size (by omega)))
    have HB1 : Hid (Below w.heap.size w w1) := HB0.out.trans (hb1.mono (by omega))
    have hsz1 : w.heap.size + 1 ≤ w1.heap.size := by have := hb1.size; rw [hsz0] at this; exact this
    clear hb1 HC HT0 HB0 hsz0
    go_wp2_with (first | (refine wpList_store_reg rfl 92 _ _ rfl w1.heap.size z1 rfl rfl 92 (regA reg0) (heap_alloc_new w1 _) (regA_size _) Tryd.sizeRegistry ?_; intro w2 hq2 ho2) | fail)
    have HQ2 := hide hq2
    have HB2 : Hid (Below w1.heap.size w1 w2) := ((Below.refl _ w1).alloc (Nat.le_refl _) _).trans (ho2.below (Nat.le_refl _))
    clear hq2 ho2
    go_loopw [7, 9, 21] (fun er _ i wr => ∃ (k : Nat) (y : Nat → Int), k ≤ l.length ∧ i = .int .i64 k ∧ er = .nilIface ∧ Dom y ∧ RegAt wr w1.heap.size 92 y ∧ Below w1.heap.size w1 wr ∧ foldB z1 l = foldB y (l.drop k)) (fun _ _ i _ => l.length - (intOf i).toNat)
    case atStart => exact ⟨0, z1, Nat.zero_le _, rfl, rfl, HDZ1.out, HQ2.out, HB2.out, rfl⟩
    case round =>
      clear HQ2 HB2
      obtain ⟨k, y, hk, rfl, rfl, hdy, hy, hbw, hgf⟩ := hrel
      have HDY := hide hdy
      have HY := hide hy
      have HBW := hide hbw
      have HGW := hide hgf
      have HBX : Hid (Below w.heap.size w wr) := HB1.out.trans (hbw.mono HB1.out.size)
      have HTW := hide (HT1.out.block (hbw.block w.heap.size (by omega)))
      clear hdy hy hbw hgf
      by_cases hend : k = l.length
      · have HE : Hid (foldR g n l = (y, 0)) := foldR_good g n l y (by rw [HGE.out]) (by rw [HGE.out]; show foldB z1 l = some y; rw [HGW.out, hend, List.drop_length]; rfl)
        have hend2 : ¬ (k : Int) < l.length := by omega
        clear hend
        go_wp2_with (first | (refine wpList_load_reg rfl 92 _ rfl _ rfl 92 y _ HY.out Tryd.underlying92 rfl Tryd.sizeRegistry ?_) | fail)
        refine (tell_any y wr HDY.out).mono ?_
        rintro e w4 ⟨pv, rv, rfl, hp4, hr4, hap, hb4⟩
        obtain ⟨pp, pc, rfl⟩ := own_slice hp4
        obtain ⟨rp, rc, rfl⟩ := own_slice hr4
        have HP4 := hide hp4
        have HR4 := hide hr4
        have HAP := hide hap
        have HT4 := hide (HTW.out.block (hb4.block w.heap.size HTW.out.lt))
        have HB4 : Hid (Below w.heap.size w w4) := HBX.out.trans (hb4.mono HBX.out.size)
        clear hp4 hr4 hap hb4
        go_wp2_with (refine wpList_store_rowG rfl 48 _ _ rfl w.heap.size _ rfl rfl 48 #[.slice none 0 0, .string ⟨#[]⟩, .slice none 0 0] HT4.out rfl (by simp [Value.oneCell']) Tryd.sizeTold ?_; intro w9 hq ho)
        refine bodyPost_ret (v := .tuple #[.agg #[.slice pp 8 pc, .string (nameB (memb y 26)), .slice rp (memb y 26).length rc], .nilIface]) (results_row2 Tryd.results16 _ _ w.heap.size 48 _ _ _ rfl rfl hq Tryd.underlying48 rfl Tryd.sizeTold) rfl ?_
        rw [HE.out]
        have hwr : w.heap.size < wr.heap.size := HTW.out.lt
        exact ⟨HB4.out.trans (ho.below (Nat.le_refl _)), Or.inl ⟨rfl, _, _, rfl, own_base (own_blocks HP4.out (fun g2 e2 _ => ho.block g2 (by have := (HP4.out.lt g2 e2).1; omega))) (by omega), own_base (own_blocks HR4.out (fun g2 e2 _ => ho.block g2 (by have := (HR4.out.lt g2 e2).1; omega))) (by omega), HAP.out⟩⟩
      · have hkn : k < l.length := by omega
        obtain ⟨bl, ol, rfl, hbl0, hc⟩ := HL.out k hkn
        have hkn2 : (k : Int) < l.length := by omega
        obtain ⟨t, ht⟩ : ∃ t, t = l.getD k ByteArray.empty := ⟨_, rfl⟩
        have HST : Hid (t.size < 4294967281) := by unfold Hid; rw [ht]; exact HS.out k hkn
        have hcr : wr.cell? ⟨bl, ol + k, none⟩ = some (.string t) := by rw [ht]; exact (HBX.out.cell (p := ⟨bl, ol + k, none⟩) (by exact hbl0)).trans hc
        have hmx : l.length ≤ 9223372036854775807 := by have := HM.out; unfold maxLen at this; omega
        obtain ⟨z, hz⟩ : ∃ z, z = (behindR y t).1 := ⟨_, rfl⟩
        obtain ⟨o, ho⟩ : ∃ o, o = (behindR y t).2 := ⟨_, rfl⟩
        have HZ : Hid (behindR y t = (z, o)) := by unfold Hid; rw [hz, ho]
        have HDZ : Hid (Dom z) := by unfold Hid; rw [hz]; exact HDY.out.behind t
        have HGS : Hid (foldB z1 l = if o then foldB z (l.drop (k + 1)) else none) := by unfold Hid; rw [HGW.out]; exact foldB_step y l k hkn z o (by rw [← ht]; exact HZ.out)
        have H12r := hide ((HBX.out.cell (p := ⟨11, 0, none⟩) (by exact hl12)).trans H12.out)
        have HMXr := hide ((HBX.out.cell (p := ⟨13, 0, none⟩) (by exact hlx)).trans HMX.out)
        clear ht hc hz ho hend
        cases o with
        | false =>
          have HE : Hid (foldR g n l = (reg0, 12)) := foldR_bad g n l (by rw [HGE.out]) (by rw [HGE.out]; exact HGS.out)
          have HC := hide (behindP_no y t a12 m z wr HDY.out HST.out H12r.out HMXr.out HZ.out)
          go_wp2_with (first | (refine wpList_load_reg rfl 92 _ rfl _ rfl 92 y _ HY.out Tryd.underlying92 rfl Tryd.sizeRegistry ?_) | fail)
          refine HC.out.mono ?_
          rintro e w3 ⟨rfl, hb3⟩
          have HB3 : Hid (Below w.heap.size w w3) := HBX.out.trans (hb3.mono HBX.out.size)
          have HY3 := hide (HY.out.below hb3)
          have HT3 := hide (HTW.out.block (hb3.block w.heap.size HTW.out.lt))
          clear hb3 HC
          go_wp2_with (first | (refine wpList_store_reg rfl 92 _ _ rfl w1.heap.size reg0 rfl rfl 92 (regA y) HY3.out (regA_size _) Tryd.sizeRegistry ?_; intro w5 hq5 ho5; have HO5 := hide ho5; clear hq5 ho5) | (refine wpList_store_rowG rfl 48 _ _ rfl w.heap.size #[.slice none 0 0, .string ⟨#[]⟩, .slice none 0 0] rfl rfl 48 #[.slice none 0 0, .string ⟨#[]⟩, .slice none 0 0] (HT3.out.block (HO5.out.block w.heap.size (by omega))) rfl (by simp [Value.oneCell']) Tryd.sizeTold ?_; intro w9 hq ho))
          exact bodyPost_ret (v := .tuple #[.agg #[.slice none 0 0, .string ⟨#[]⟩, .slice none 0 0], .iface 188 (.pointer (some a12))]) (results_row2 Tryd.results16 _ _ w.heap.size 48 _ _ _ rfl rfl hq Tryd.underlying48 rfl Tryd.sizeTold) rfl (by rw [HE.out]; exact FoldP.bad ((HB3.out.trans (HO5.out.below (by omega))).trans (ho.below (Nat.le_refl _))))
        | true =>
          have HGN : Hid (foldB z1 l = foldB z (l.drop (k + 1))) := HGS.out
          have HC := hide (behindP_yes y t a12 m z wr HDY.out HST.out H12r.out HMXr.out HZ.out)
          go_wp2_with (first | (refine wpList_load_reg rfl 92 _ rfl _ rfl 92 y _ HY.out Tryd.underlying92 rfl Tryd.sizeRegistry ?_) | fail)
          refine HC.out.mono ?_
          rintro e w3 ⟨rfl, hb3⟩
          have HB3 : Hid (Below w1.heap.size w1 w3) := HBW.out.trans (hb3.mono HBW.out.size)
          have HY3 := hide (HY.out.below hb3)
          clear hb3 HC
          go_wp2_with (first | (refine wpList_store_reg rfl 92 _ _ rfl w1.heap.size z rfl rfl 92 (regA y) HY3.out (regA_size _) Tryd.sizeRegistry ?_; intro w5 hq5 ho5) | fail)
          go_roundw
          case rel => exact ⟨k + 1, z, by omega, by go_num, rfl, HDZ.out, hq5, HB3.out.trans (ho5.below (Nat.le_refl _)), HGN.out⟩
          case measure => simp [intOf]; omega

end Go.Proofs.YtcfjhbcpjpgodaaDoor
namespace Go.Proofs.YtcfjhbcpjpgodaaDoor
open Go.RowKit

set_option maxRecDepth 100000 in
theorem kept_nil (w : World) :
    Calls Tryd.prog 20 #[.slice none 0 0, .slice none 0 0] w fun e w' => e = .returned (.bool true) ∧ w' = w := by
  have hnl : ∀ W : World, (binOp .eql 38 (.slice none 0 0) (.slice none 0 0)).run Tryd.prog W = .ok (.bool true) W := fun W => eql_nil _ _ Tryd.underlying38 _ _ _ W
  go_enter Tryd.func20, Tryd.ntmps20
  go_wp2
  go_ret
  exact ⟨rfl, rfl⟩

set_option maxRecDepth 100000 in
set_option maxHeartbeats 3200000 in
theorem kept_any (g : Nat → Int) (b o n cap gb c : Nat) (w : World) (hn : n ≤ 1099511627776) (hc : n + 8 ≤ c) (hl : Lies w w.heap.size (some ⟨b, o, none⟩) n (fun i => .int .i64 (g i)))
    (hr : ∀ i, i < n + 8 → w.cell? ⟨gb, i, none⟩ = some (if i < n then .int .i64 (g i) else .int .i64 (-77))) :
    Calls Tryd.prog 20 #[.slice (some ⟨gb, 0, none⟩) n c, .slice (some ⟨b, o, none⟩) n cap] w fun e w' => e = .returned (.bool true) ∧ w' = w := by
  have hnl : ∀ W : World, (binOp .eql 38 (.slice (some ⟨b, o, none⟩) n cap) (.slice none 0 0)).run Tryd.prog W = .ok (.bool false) W := fun W => eql_nil _ _ Tryd.underlying38 _ _ _ W
  have HL := hide hl
  have HR := hide hr
  clear hl hr
  go_enter Tryd.func20, Tryd.ntmps20
  go_wp2
  clear hnl
  go_loop [6, 7] (fun i _ => ∃ k : Nat, k ≤ n + 8 ∧ i = .int .i64 k) (fun i _ => n + 8 - (intOf i).toNat)
  case atStart => exact ⟨0, by omega, rfl⟩
  case round =>
    obtain ⟨k, hk, rfl⟩ := hrel
    by_cases hkn : k = n + 8
    · have hk1 : ¬ (k : Int) < n + 8 := by omega
      have hk2 : ¬ k < n + 8 := by omega
      clear hkn
      go_wp2
      go_ret
      exact ⟨rfl, rfl⟩
    · have hlt : k < n + 8 := by omega
      have hk1 : (k : Int) < n + 8 := by omega
      have hr1 := HR.out k hlt
      by_cases hin : k < n
      · have hin2 : (k : Int) < n := by omega
        rw [if_pos hin] at hr1
        obtain ⟨b', o', e, _, hc1⟩ := HL.out k hin
        cases e
        clear hkn
        go_wp2
        go_round
        case rel => exact ⟨k + 1, by omega, by go_num⟩
        case measure => simp [intOf]; omega
      · have hin2 : ¬ (k : Int) < n := by omega
        rw [if_neg hin] at hr1
        clear hkn
        go_wp2
        go_round
        case rel => exact ⟨k + 1, by omega, by go_num⟩
        case measure => simp [intOf]; omega

end Go.Proofs.YtcfjhbcpjpgodaaDoor
namespace Go.Proofs.YtcfjhbcpjpgodaaDoor
open Go.RowKit

theorem roomy_ready (g : Nat → Int) (p : Option Addr) (n cap : Nat) (w : World) (hn : n ≤ 1099511627776) (hp : NilOr p n cap) (hl : Lies w w.heap.size p n (fun i => .int .i64 (g i))) :
    Calls Tryd.prog 14 #[.slice p n cap] w fun e w' => (∃ gp gc, e = .returned (.slice gp n gc) ∧ Lies w' w'.heap.size gp n (fun i => .int .i64 (g i)) ∧
      ∀ W' : World, Below w'.heap.size w' W' → Calls Tryd.prog 20 #[.slice gp n gc, .slice p n cap] W' fun e w3 => e = .returned (.bool true) ∧ w3 = W') ∧ Below w.heap.size w w' := by
  rcases hp with ⟨rfl, rfl, rfl⟩ | ⟨b, o, rfl⟩
  · refine (roomy_nil w).mono ?_
    rintro e w' ⟨rfl, rfl⟩
    exact ⟨⟨none, 0, rfl, fun i hi => by omega, fun W' _ => kept_nil W'⟩, Below.refl _ _⟩
  · refine (roomy_any g b o n cap w hn hl).mono ?_
    rintro e w' ⟨⟨gb, c, rfl, ho⟩, hb⟩
    obtain ⟨hc, hgl, hcell⟩ := own_room ho
    refine ⟨⟨some ⟨gb, 0, none⟩, c, rfl, fun i hi => ⟨gb, 0, rfl, hgl, ?_⟩, fun W' hW => ?_⟩, hb⟩
    · rw [Nat.zero_add, hcell i (by omega), if_pos hi]
    · exact kept_any g b o n cap gb c W' hn hc ((hl.below (hb.trans (hW.mono hb.size))).more (Nat.le_trans hb.size hW.size)) (fun i hi => by
        rw [hW.cell (p := ⟨gb, i, none⟩) (by exact hgl), hcell i hi])

/-- What Fold leaves, in one form: two rows, a text, an error that which tells. -/
theorem fold_uni {f : (Nat → Int) × Int} {es : List Addr} {a1 a12 : Addr} (h1 : es[0]? = some a1) (h12 : es[11]? = some a12) {w w' : World} {e : Ending} (h : FoldP f a1 a12 w e w') :
    ∃ (pp rp : Option Addr) (np nr pc rc : Nat) (s : ByteArray) (ev : Value) (xs ys : List Value), e = .returned (.tuple #[.agg #[.slice pp np pc, .string s, .slice rp nr rc], ev]) ∧
      w'.ownsRow w.heap.size 3 1 (.slice pp np pc) np xs ∧ w'.ownsRow w.heap.size 3 1 (.slice rp nr rc) nr ys ∧ (∀ g, Value.ownBlock (.slice pp np pc) = some g → Value.ownBlock (.slice rp nr rc) ≠ some g) ∧ np ≤ 26 ∧ nr ≤ 26 ∧
      (∀ W' : World, Sent es W' → Calls Tryd.prog 8 #[ev] W' fun e w2 => e = .returned (.int .i64 f.2) ∧ Below W'.heap.size W' w2) ∧
      (f.2 = 0 → np = 8 ∧ xs = powL f.1 8 ∧ nr = (memb f.1 26).length ∧ ys = roleL f.1 (memb f.1 26) ∧ s = nameB (memb f.1 26) ∧ ev = .nilIface) ∧ (f.2 ≠ 0 → np = 0 ∧ nr = 0 ∧ s = ByteArray.empty) ∧ Below w.heap.size w w' := by
  obtain ⟨hb, ⟨h0, p, r, rfl, hp, hr, hap⟩ | ⟨h0, rfl⟩ | ⟨h0, rfl⟩⟩ := h
  · obtain ⟨pp, pc, rfl⟩ := own_slice hp
    obtain ⟨rp, rc, rfl⟩ := own_slice hr
    exact ⟨pp, rp, 8, _, pc, rc, _, .nilIface, _, _, rfl, hp, hr, hap, by omega, memb_length _ _, fun W' hS => by rw [h0]; exact which_nil hS, fun _ => ⟨rfl, rfl, rfl, rfl, rfl, rfl⟩, fun h => absurd h0 h, hb⟩
  · exact ⟨none, none, 0, 0, 0, 0, ⟨#[]⟩, _, [], [], rfl, World.ownsRow_nil _ _ _ _, World.ownsRow_nil _ _ _ _, fun g e => (by cases e), by omega, by omega, fun W' hS => by rw [h0]; exact which_sent hS 0 a1 h1, fun h => (by rw [h0] at h; cases h), fun _ => ⟨rfl, rfl, rfl⟩, hb⟩
  · exact ⟨none, none, 0, 0, 0, 0, ⟨#[]⟩, _, [], [], rfl, World.ownsRow_nil _ _ _ _, World.ownsRow_nil _ _ _ _, fun g e => (by cases e), by omega, by omega, fun W' hS => by rw [h0]; exact which_sent hS 11 a12 h12, fun h => (by rw [h0] at h; cases h), fun _ => ⟨rfl, rfl, rfl⟩, hb⟩

/-- A row of numbers that is owned, by number. -/
theorem own_nums {w : World} {base n : Nat} {p : Option Addr} {c : Nat} {l : List Int} (h : w.ownsRow base 3 1 (.slice p n c) n (l.map (Value.int .i64))) : n = l.length ∧ Lies w w.heap.size p n (fun i => .int .i64 (l.getD i 0)) := by
  have hl : n = l.length := by have := h.1; simp at this; omega
  refine ⟨hl, fun i hi => ?_⟩
  rcases h.2 with ⟨_, h0⟩ | ⟨g, cap, cur, e0, hb, hg, hnc, hcm, hcs, ht⟩
  · omega
  · cases e0
    refine ⟨g, 0, rfl, row_lt hg, ?_⟩
    rw [cell_of_row w g (0 + i) _ _ _ hg, Nat.zero_add]
    have e1 : (cur.toList.take (n * 1))[i]? = (l.map (Value.int .i64))[i]? := by rw [ht]
    rw [List.getElem?_take, if_pos (by omega)] at e1
    rw [← Array.getElem?_toList, e1, List.getElem?_map]
    show Option.map (Value.int .i64) l[i]? = some (.int .i64 (l.getD i 0))
    rw [List.getD_eq_getElem?_getD, List.getElem?_eq_getElem (by omega)]
    rfl
theorem powL_nums (x : Nat → Int) (k : Nat) : powL x k = ((List.range k).map x).map (Value.int .i64) := by simp [powL, List.map_map]
theorem roleL_nums (x : Nat → Int) (l : List Nat) : roleL x l = (l.map fun j => x (8 + j)).map (Value.int .i64) := by simp [roleL, List.map_map]

end Go.Proofs.YtcfjhbcpjpgodaaDoor
