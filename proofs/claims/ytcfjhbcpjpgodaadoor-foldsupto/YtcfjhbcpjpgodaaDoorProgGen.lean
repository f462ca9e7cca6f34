/- Proved here: what the program's Genesis answers. -/
import Derived.Test.YtcfjhbcpjpgodaaDoorProgMay
namespace Go.Proofs.YtcfjhbcpjpgodaaDoor
open Go.RowKit

/-- The registry with no error, the empty one with one; the error. -/
def goodR (r : (Nat → Int) × Bool) : Nat → Int := if r.2 then r.1 else reg0
def errV (b : Addr) : Value := .iface 188 (.pointer (some b))
def errIf (o : Bool) (b : Addr) : Value := if o then .nilIface else errV b

theorem sumTo_regOf (g : Nat → Int) (n : Nat) : ∀ m, sumTo (regOf g n) (n + m) = sumTo g n := by
  intro m
  induction m with
  | zero =>
    have h : ∀ k, k ≤ n → sumTo (regOf g n) k = sumTo g k := by
      intro k
      induction k with
      | zero => intro _; rfl
      | succ k ih => intro hk; simp only [sumTo]; rw [ih (by omega), regOf, if_pos (by omega)]
    exact h n (Nat.le_refl _)
  | succ m ih =>
    rw [← Nat.add_assoc]
    simp only [sumTo]
    rw [ih, regOf, if_neg (by omega)]
    omega

set_option maxRecDepth 100000 in
set_option maxHeartbeats 3200000 in
theorem genP_any (g : Nat → Int) (p : Option Addr) (n cap : Nat) (b : Addr) (w : World) (hl : Lies w w.heap.size p n (fun i => .int .i64 (g i))) (hg : w.cell? ⟨0, 0, none⟩ = some (.iface 188 (.pointer (some b)))) :
    Calls Tryd.prog 39 #[.slice p n cap] w fun e w' => e = .returned (.tuple #[.agg (regA (goodR (genR g n))), errIf (genR g n).2 b]) ∧ Below w.heap.size w w' := by
  have z0 := regA_zero
  have hgl : 0 < w.heap.size := World.block_lt_of_cell? _ _ hg
  obtain ⟨W, hW⟩ : ∃ W, W = (w.alloc (.cells (regA reg0) 92)).alloc (.cells (regA reg0) 92) := ⟨_, rfl⟩
  have HR1 : Hid (RegAt W w.heap.size 92 reg0) := by
    unfold Hid
    rw [hW]
    exact (RegAt.alloc w _ reg0).below ((Below.refl _ _).alloc (Nat.le_refl _) _)
  have HR2 : Hid (RegAt W (w.heap.size + 1) 92 reg0) := by
    unfold Hid
    have h := RegAt.alloc (w.alloc (.cells (regA reg0) 92)) 92 reg0
    have e1 : (w.alloc (.cells (regA reg0) 92)).heap.size = w.heap.size + 1 := by simp
    rw [e1] at h
    rw [hW]
    exact h
  have HB : Hid (Below w.heap.size w W) := by
    unfold Hid
    rw [hW]
    exact ((Below.refl _ w).alloc (Nat.le_refl _) _).alloc (by simp) _
  have HG := hide hg
  have HL := hide hl
  have hW2 := hW.symm
  clear hW hl hg
  by_cases hn : n ≤ 8
  · have hni : ¬ 8 < (n : Int) := by omega
    go_enter Tryd.func39, Tryd.ntmps39
    go_wp2
    go_loopw [5, 6, 14] (fun _ _ i wr => ∃ k : Nat, k ≤ n ∧ (∀ j, j < k → 0 ≤ g j ∧ g j ≤ 9) ∧ i = .int .i64 k ∧ RegAt wr w.heap.size 92 reg0 ∧ RegAt wr (w.heap.size + 1) 92 (regOf g k) ∧ Below w.heap.size w wr) (fun _ _ i _ => n - (intOf i).toNat)
    case atStart => exact ⟨0, by omega, fun j hj => by omega, rfl, HR1.out, by rw [regOf_zero]; exact HR2.out, HB.out⟩
    case round =>
      clear HR1 HR2 HB hW2
      obtain ⟨k, hk, hd, rfl, h1, h2, hb⟩ := hrel
      have HD := hide hd
      have HB := hide hb
      have H1 := hide h1
      have H2 := hide h2
      have HGr := hide ((hb.cell (p := ⟨0, 0, none⟩) (by exact hgl)).trans HG.out)
      clear hd hb h1 h2
      by_cases hkn : k = n
      · subst hkn
        have HT := hide (total_any (regOf g k) wr (fun i hi => by unfold regOf; split; exact HD.out i ‹_›; omega))
        have HSU : Hid (sumTo (regOf g k) 8 = sumTo g k) := by have := sumTo_regOf g k (8 - k); rw [Nat.add_sub_cancel' hn] at this; exact this
        have HSB := hide (sumTo_bound g k HD.out)
        have HGEN := hide (genR_good g k hn HD.out)
        go_wp2_with (first | (refine wpList_load_reg rfl 92 _ rfl _ rfl 92 _ _ H2.out Tryd.underlying92 rfl Tryd.sizeRegistry ?_) | fail)
        refine HT.out.mono ?_
        rintro e w1 ⟨rfl, hb1⟩
        rw [HSU.out]
        have H11 := hide (H1.out.below hb1)
        have H21 := hide (H2.out.below hb1)
        have HB1 : Hid (Below w.heap.size w w1) := HB.out.trans (hb1.mono HB.out.size)
        have HG1 := hide ((HB1.out.cell (p := ⟨0, 0, none⟩) (by exact hgl)).trans HG.out)
        clear hb1 HT
        by_cases hs : sumTo g k = 0
        · have HF : Hid (genR g k = (regOf g k, false)) := by unfold Hid; rw [HGEN.out, decide_eq_false (by omega)]
          rw [hs]
          clear hs
          go_wp2_with fail
          refine wp_region_held_drew (S := fun W' => W'.cell? ⟨0, 0, none⟩ = some (.iface 188 (.pointer (some b)))) (by kernel_rfl) HG1.out (fun hHeld => ?_)
          refine takeD 0 (some 35) (.agg (regA reg0)) rfl rfl (by kernel_rfl) (by kernel_rfl) (by kernel_rfl) (fun _ _ _ h => h) (Or.inl ⟨by rfl, ?_⟩) hHeld ?_
          · intro w hSw
            go_simp
          simp only [Act.put, List.setIfInBounds_toArray, List.set_cons_zero, List.set_cons_succ]
          refine takeD 1 (some 36) (.iface 188 (.pointer (some b))) rfl rfl (by kernel_rfl) (by kernel_rfl) (by kernel_rfl) (fun _ _ _ h => h) (Or.inl ⟨by rfl, ?_⟩) hHeld ?_
          · intro w hSw
            go_simp
          simp only [Act.put, List.setIfInBounds_toArray, List.set_cons_zero, List.set_cons_succ]
          refine wpAnyH_ready (rs := [2]) (by kernel_rfl) (by simp) ?_
          refine AllReadyH.cons rfl (fun K hK => ?_) AllReadyH.nil
          rw [if_pos (by rfl)]
          refine wp_store_reg 92 _ _ rfl w.heap.size reg0 rfl rfl 92 (regA reg0) H11.out.drew (regA_size _) Tryd.sizeRegistry ?_
          intro w2 hq ho
          refine hK.out _ _ ((ho.cell (p := ⟨0, 0, none⟩) (by show 0 ≠ w.heap.size; omega)).trans hHeld) (fun hHeld => ?_)
          clear hK K
          refine wpAnyH_ready (rs := [3]) (by kernel_rfl) (by simp) ?_
          refine AllReadyH.cons rfl (fun K hK => ?_) AllReadyH.nil
          go_simp
          refine hK.out _ _ hHeld (fun hHeld => ?_)
          clear hK K
          refine wpAnyH_done (by kernel_rfl) ?_ _
          go_wp2
          exact bodyPost_ret (v := .tuple #[.agg (regA reg0), .iface 188 (.pointer (some b))]) (results_reg2 Tryd.results39 _ _ w.heap.size 92 reg0 _ _ rfl rfl hq Tryd.underlying92 rfl Tryd.sizeRegistry) rfl ⟨by rw [HF.out]; rfl, (HB1.out.drew).trans (ho.below (Nat.le_refl _))⟩
        · have HF : Hid (genR g k = (regOf g k, true)) := by unfold Hid; rw [HGEN.out, decide_eq_true (by have := HSB.out; omega)]
          have hsb : (sumTo g k == 0) = false := by simpa using hs
          clear hs
          go_wp2_with (first | (refine wpList_load_reg rfl 92 _ rfl _ rfl 92 _ _ H21.out Tryd.underlying92 rfl Tryd.sizeRegistry ?_) | (refine wpList_store_reg rfl 92 _ _ rfl w.heap.size _ rfl rfl 92 _ H11.out (regA_size _) Tryd.sizeRegistry ?_; intro w2 hq ho))
          exact bodyPost_ret (v := .tuple #[.agg (regA (regOf g k)), .nilIface]) (results_reg2 Tryd.results39 _ _ w.heap.size 92 _ _ _ rfl rfl hq Tryd.underlying92 rfl Tryd.sizeRegistry) rfl ⟨by rw [HF.out]; rfl, HB1.out.trans (ho.below (Nat.le_refl _))⟩
      · have hlt : k < n := by omega
        have hki : (k : Int) < n := by omega
        obtain ⟨bb, o, rfl, hbb, hc⟩ := HL.out k hlt
        have hcr := (HB.out.cell (p := ⟨bb, o + k, none⟩) (by exact hbb)).trans hc
        clear hc hkn
        by_cases hneg : g k < 0
        · have HF : Hid (genR g n = (reg0, false)) := genR_bad g n (fun hh => by have := hh.2 k hlt; omega)
          go_wp2_with fail
          refine wp_region_held_drew (S := fun W' => W'.cell? ⟨0, 0, none⟩ = some (.iface 188 (.pointer (some b)))) (by kernel_rfl) HGr.out (fun hHeld => ?_)
          refine takeD 0 (some 25) (.agg (regA reg0)) rfl rfl (by kernel_rfl) (by kernel_rfl) (by kernel_rfl) (fun _ _ _ h => h) (Or.inl ⟨by rfl, ?_⟩) hHeld ?_
          · intro w hSw
            go_simp
          simp only [Act.put, List.setIfInBounds_toArray, List.set_cons_zero, List.set_cons_succ]
          refine takeD 1 (some 26) (.iface 188 (.pointer (some b))) rfl rfl (by kernel_rfl) (by kernel_rfl) (by kernel_rfl) (fun _ _ _ h => h) (Or.inl ⟨by rfl, ?_⟩) hHeld ?_
          · intro w hSw
            go_simp
          simp only [Act.put, List.setIfInBounds_toArray, List.set_cons_zero, List.set_cons_succ]
          refine wpAnyH_ready (rs := [2]) (by kernel_rfl) (by simp) ?_
          refine AllReadyH.cons rfl (fun K hK => ?_) AllReadyH.nil
          rw [if_pos (by rfl)]
          refine wp_store_reg 92 _ _ rfl w.heap.size reg0 rfl rfl 92 (regA reg0) H1.out.drew (regA_size _) Tryd.sizeRegistry ?_
          intro w2 hq ho
          refine hK.out _ _ ((ho.cell (p := ⟨0, 0, none⟩) (by show 0 ≠ w.heap.size; omega)).trans hHeld) (fun hHeld => ?_)
          clear hK K
          refine wpAnyH_ready (rs := [3]) (by kernel_rfl) (by simp) ?_
          refine AllReadyH.cons rfl (fun K hK => ?_) AllReadyH.nil
          go_simp
          refine hK.out _ _ hHeld (fun hHeld => ?_)
          clear hK K
          refine wpAnyH_done (by kernel_rfl) ?_ _
          go_wp2
          exact bodyPost_ret (v := .tuple #[.agg (regA reg0), .iface 188 (.pointer (some b))]) (results_reg2 Tryd.results39 _ _ w.heap.size 92 reg0 _ _ rfl rfl hq Tryd.underlying92 rfl Tryd.sizeRegistry) rfl ⟨by rw [HF.out]; rfl, (HB.out.drew).trans (ho.below (Nat.le_refl _))⟩
        · by_cases hbig : 9 < g k
          · have HF : Hid (genR g n = (reg0, false)) := genR_bad g n (fun hh => by have := hh.2 k hlt; omega)
            go_wp2_with fail
            refine wp_region_held_drew (S := fun W' => W'.cell? ⟨0, 0, none⟩ = some (.iface 188 (.pointer (some b)))) (by kernel_rfl) HGr.out (fun hHeld => ?_)
            refine takeD 0 (some 25) (.agg (regA reg0)) rfl rfl (by kernel_rfl) (by kernel_rfl) (by kernel_rfl) (fun _ _ _ h => h) (Or.inl ⟨by rfl, ?_⟩) hHeld ?_
            · intro w hSw
              go_simp
            simp only [Act.put, List.setIfInBounds_toArray, List.set_cons_zero, List.set_cons_succ]
            refine takeD 1 (some 26) (.iface 188 (.pointer (some b))) rfl rfl (by kernel_rfl) (by kernel_rfl) (by kernel_rfl) (fun _ _ _ h => h) (Or.inl ⟨by rfl, ?_⟩) hHeld ?_
            · intro w hSw
              go_simp
            simp only [Act.put, List.setIfInBounds_toArray, List.set_cons_zero, List.set_cons_succ]
            refine wpAnyH_ready (rs := [2]) (by kernel_rfl) (by simp) ?_
            refine AllReadyH.cons rfl (fun K hK => ?_) AllReadyH.nil
            rw [if_pos (by rfl)]
            refine wp_store_reg 92 _ _ rfl w.heap.size reg0 rfl rfl 92 (regA reg0) H1.out.drew (regA_size _) Tryd.sizeRegistry ?_
            intro w2 hq ho
            refine hK.out _ _ ((ho.cell (p := ⟨0, 0, none⟩) (by show 0 ≠ w.heap.size; omega)).trans hHeld) (fun hHeld => ?_)
            clear hK K
            refine wpAnyH_ready (rs := [3]) (by kernel_rfl) (by simp) ?_
            refine AllReadyH.cons rfl (fun K hK => ?_) AllReadyH.nil
            go_simp
            refine hK.out _ _ hHeld (fun hHeld => ?_)
            clear hK K
            refine wpAnyH_done (by kernel_rfl) ?_ _
            go_wp2
            exact bodyPost_ret (v := .tuple #[.agg (regA reg0), .iface 188 (.pointer (some b))]) (results_reg2 Tryd.results39 _ _ w.heap.size 92 reg0 _ _ rfl rfl hq Tryd.underlying92 rfl Tryd.sizeRegistry) rfl ⟨by rw [HF.out]; rfl, (HB.out.drew).trans (ho.below (Nat.le_refl _))⟩
          · have hcell := H2.out.cell k (by omega)
            have hfz := H2.out.frozen k
            have hk8 : (k : Int) < 8 := by omega
            go_wp2
            go_roundw
            case rel =>
              refine ⟨k + 1, by omega, fun j hj => ?_, by go_num, ?_, ?_, ?_⟩
              · by_cases hj2 : j < k
                · exact HD.out j hj2
                · obtain rfl : j = k := by omega
                  omega
              · exact H1.out.only (only_setCell _ _ _ _) (by omega)
              · rw [← regOf_succ]
                exact H2.out.set k (g k) (by omega)
              · exact HB.out.trans ((only_setCell _ _ _ _).below (by omega))
            case measure => simp [intOf]; omega
  · have hni : 8 < (n : Int) := by omega
    have HF : Hid (genR g n = (reg0, false)) := genR_bad g n (fun hh => hn hh.1)
    have HG1 := hide ((HB.out.cell (p := ⟨0, 0, none⟩) (by exact hgl)).trans HG.out)
    clear hn
    go_enter Tryd.func39, Tryd.ntmps39
    go_wp2_with fail
    refine wp_region_held_drew (S := fun W' => W'.cell? ⟨0, 0, none⟩ = some (.iface 188 (.pointer (some b)))) (by kernel_rfl) HG1.out (fun hHeld => ?_)
    refine takeD 0 (some 10) (.agg (regA reg0)) rfl rfl (by kernel_rfl) (by kernel_rfl) (by kernel_rfl) (fun _ _ _ h => h) (Or.inl ⟨by rfl, ?_⟩) hHeld ?_
    · intro w hSw
      go_simp
    simp only [Act.put, List.setIfInBounds_toArray, List.set_cons_zero, List.set_cons_succ]
    refine takeD 1 (some 11) (.iface 188 (.pointer (some b))) rfl rfl (by kernel_rfl) (by kernel_rfl) (by kernel_rfl) (fun _ _ _ h => h) (Or.inl ⟨by rfl, ?_⟩) hHeld ?_
    · intro w hSw
      go_simp
    simp only [Act.put, List.setIfInBounds_toArray, List.set_cons_zero, List.set_cons_succ]
    refine wpAnyH_ready (rs := [2]) (by kernel_rfl) (by simp) ?_
    refine AllReadyH.cons rfl (fun K hK => ?_) AllReadyH.nil
    rw [if_pos (by rfl)]
    refine wp_store_reg 92 _ _ rfl w.heap.size reg0 rfl rfl 92 (regA reg0) HR1.out.drew (regA_size _) Tryd.sizeRegistry ?_
    intro w2 hq ho
    refine hK.out _ _ ((ho.cell (p := ⟨0, 0, none⟩) (by show 0 ≠ w.heap.size; omega)).trans hHeld) (fun hHeld => ?_)
    clear hK K
    refine wpAnyH_ready (rs := [3]) (by kernel_rfl) (by simp) ?_
    refine AllReadyH.cons rfl (fun K hK => ?_) AllReadyH.nil
    go_simp
    refine hK.out _ _ hHeld (fun hHeld => ?_)
    clear hK K
    refine wpAnyH_done (by kernel_rfl) ?_ _
    go_wp2
    exact bodyPost_ret (v := .tuple #[.agg (regA reg0), .iface 188 (.pointer (some b))]) (results_reg2 Tryd.results39 _ _ w.heap.size 92 reg0 _ _ rfl rfl hq Tryd.underlying92 rfl Tryd.sizeRegistry) rfl ⟨by rw [HF.out]; rfl, (HB.out.drew).trans (ho.below (Nat.le_refl _))⟩

end Go.Proofs.YtcfjhbcpjpgodaaDoor
