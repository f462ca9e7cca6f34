/- Proved here: what the document's registry tells: its powers, its names, its roles. -/
import Derived.Test.YtcfjhbcpjpgodaaDoorJ22
namespace Go.Proofs.YtcfjhbcpjpgodaaDoor
open Go.RowKit

set_option linter.unusedSimpArgs false in
set_option maxRecDepth 100000 in
set_option maxHeartbeats 3200000 in
theorem plain_any (x : Nat → Int) (w : World) (hx : Dom x) :
    Calls Tryd.prog 19 #[.agg (regA x)] w fun e w' => ∃ p r, e = .returned (.agg #[p, .string (nameB (memb x 26)), r]) ∧ w'.ownsRow w.heap.size 3 1 p 8 (powL x 8) ∧ w'.ownsRow w.heap.size 3 1 r (memb x 26).length (roleL x (memb x 26)) ∧ Below w.heap.size w w' := by
  obtain ⟨i3, hi, hz0, hz1, hz2⟩ := info_parts Tryd.infoInt
  have HX := hide hx
  clear hx
  go_enter Tryd.func19, Tryd.ntmps19
  go_wp2
  go_loopw [4] (fun i wr => ∃ (k : Nat) (v : Value), k ≤ 8 ∧ i = .int .i64 k ∧ RegAt wr w.heap.size 54 x ∧ ToldAt wr (w.heap.size + 1) (.slice none 0 0) ByteArray.empty (.slice none 0 0) ∧ ToldAt wr (w.heap.size + 1 + 1) v ByteArray.empty (.slice none 0 0) ∧ wr.ownsRow (w.heap.size + 1 + 1 + 1) 3 1 v k (powL x k) ∧ Below w.heap.size w wr) (fun i _ => 8 - (intOf i).toNat)
  case atStart =>
    refine ⟨0, .slice none 0 0, by omega, rfl, ?_, ?_, ?_, World.ownsRow_nil _ _ _ _, ?_⟩
    · exact ((RegAt.alloc w 54 x).below ((Below.refl _ _).alloc (Nat.le_refl _) _)).below ((Below.refl _ _).alloc (Nat.le_refl _) _)
    · have h : ToldAt ((w.alloc (.cells (regA x) 54)).alloc (.cells #[.slice none 0 0, .string ByteArray.empty, .slice none 0 0] 48)) (w.alloc (.cells (regA x) 54)).heap.size (.slice none 0 0) ByteArray.empty (.slice none 0 0) := heap_alloc_new (w.alloc (.cells (regA x) 54)) _
      have e : (w.alloc (.cells (regA x) 54)).heap.size = w.heap.size + 1 := by simp
      rw [e] at h
      exact h.block (Below.heap_alloc ((w.alloc (.cells (regA x) 54)).alloc (.cells #[.slice none 0 0, .string ByteArray.empty, .slice none 0 0] 48)) (.cells #[.slice none 0 0, .string ByteArray.empty, .slice none 0 0] 48) (w.heap.size + 1) h.lt)
    · have h : ToldAt (((w.alloc (.cells (regA x) 54)).alloc (.cells #[.slice none 0 0, .string ByteArray.empty, .slice none 0 0] 48)).alloc (.cells #[.slice none 0 0, .string ByteArray.empty, .slice none 0 0] 48)) ((w.alloc (.cells (regA x) 54)).alloc (.cells #[.slice none 0 0, .string ByteArray.empty, .slice none 0 0] 48)).heap.size (.slice none 0 0) ByteArray.empty (.slice none 0 0) := heap_alloc_new ((w.alloc (.cells (regA x) 54)).alloc (.cells #[.slice none 0 0, .string ByteArray.empty, .slice none 0 0] 48)) _
      have e : ((w.alloc (.cells (regA x) 54)).alloc (.cells #[.slice none 0 0, .string ByteArray.empty, .slice none 0 0] 48)).heap.size = w.heap.size + 1 + 1 := by simp
      rw [e] at h
      exact h
    · exact (((Below.refl _ w).alloc (Nat.le_refl _) _).alloc (by simp) _).alloc (by simp; omega) _
  case round =>
    obtain ⟨k, v, hk, rfl, hr, ht1, ht2, ho, hb⟩ := hrel
    have HR := hide hr
    have HT1 := hide ht1
    have HT2 := hide ht2
    have HO := hide ho
    have HB := hide hb
    have hc0 := ht2.cell.1
    have hf0 := ht2.frozen 0
    have hc0a : ∀ o, (wr.alloc o).cell? ⟨w.heap.size + 1 + 1, 0, none⟩ = some v := fun o => (((Below.refl wr.heap.size wr).alloc (Nat.le_refl _) o).cell (p := ⟨w.heap.size + 1 + 1, 0, none⟩) (by exact ht2.lt)).trans hc0
    clear hr ht1 ht2 ho hb
    by_cases hk8 : k = 8
    · have HO8 : Hid (wr.ownsRow (w.heap.size + 1 + 1 + 1) 3 1 v 8 (powL x 8)) := by have := HO.out; rw [hk8] at this; exact this
      have hge : ¬ (k : Int) < 8 := by omega
      clear hk8 HO hk
      obtain ⟨k8, hk8⟩ : ∃ z, z = k := ⟨_, rfl⟩
      subst hk8
      have HO := HO8
      go_wp2
      clear hc0 hf0 hc0a HO8
      obtain ⟨w8, hw8⟩ : ∃ z, z = wr := ⟨_, rfl⟩
      subst hw8
      go_loopw [5] (fun i ws => ∃ (k : Nat) (rv : Value), k ≤ 26 ∧ i = .int .i64 k ∧ But w8.heap.size (w.heap.size + 1 + 1) w8 ws ∧ ToldAt ws (w.heap.size + 1 + 1) v (nameB (memb x k)) rv ∧ ws.ownsRow w8.heap.size 3 1 rv (memb x k).length (roleL x (memb x k))) (fun i _ => 26 - (intOf i).toNat)
      case atStart => exact ⟨0, .slice none 0 0, by omega, rfl, But.refl _ _ _, HT2.out, World.ownsRow_nil _ _ _ _⟩
      case round =>
        obtain ⟨k, rv, hk, rfl, hbt, htw, how⟩ := hrel
        have hlt8 := HT2.out.lt
        have HBT := hide hbt
        have HTW := hide htw
        have HOW := hide how
        have HRW := hide (hbt.reg HR.out (by omega) (by omega))
        have HT1W := hide (HT1.out.block (hbt.block (w.heap.size + 1) (by omega) (by omega)))
        have HPW := hide (hbt.own HO.out (Nat.le_refl _) (by omega))
        have HBW := hide (HB.out.trans (hbt.below (B' := w.heap.size) (by omega) (by omega)))
        clear hbt htw how
        by_cases hk26 : k = 26
        · subst hk26
          obtain ⟨pp, pc, rfl⟩ := own_slice HPW.out
          obtain ⟨rp, rc, rfl⟩ := own_slice HOW.out
          go_wp2_with (first | (refine wpList_load_row rfl 48 _ rfl (w.heap.size + 1 + 1) rfl 48 _ (0, 0) _ HTW.out Tryd.underlying48 rfl Tryd.sizeTold ?_) | (refine wpList_store_rowG rfl 48 _ _ rfl (w.heap.size + 1) _ rfl rfl 48 _ HT1W.out rfl (by simp [Value.oneCell']) Tryd.sizeTold ?_; intro w5 hq ho))
          exact bodyPost_ret (v := .agg #[.slice pp 8 pc, .string (nameB (memb x 26)), .slice rp (memb x 26).length rc]) (results_cell_row Tryd.results19 _ _ (w.heap.size + 1) 48 _ (0, 0) _ rfl hq Tryd.underlying48 rfl Tryd.sizeTold) rfl ⟨_, _, rfl, own_base ((But.of_only (B := wr.heap.size) ho).own HPW.out (Nat.le_refl _) (by omega)) (by omega), own_base ((But.of_only (B := wr.heap.size) ho).own HOW.out (Nat.le_refl _) (by omega)) (by omega), HBW.out.trans (ho.below (by omega))⟩
        · have hki : (k : Int) < 26 := by omega
          have hcx := HRW.out.cell (8 + k) (by omega)
          by_cases hpos : 0 < x (8 + k)
          · have HMY := hide (memb_yes x k hpos)
            have hml := memb_length x k
            obtain ⟨nm, hnm⟩ : ∃ nm, nm = nameB (memb x k) := ⟨_, rfl⟩
            rw [← hnm] at HTW
            obtain ⟨ch, hch⟩ : ∃ ch, ch = strOfNums [(k : Int) + 97] := ⟨_, rfl⟩
            obtain ⟨nn, hnn⟩ : ∃ nn, nn = nm ++ ch := ⟨_, rfl⟩
            have hcv : ∀ W : World, (convert 90 9 (.slice (some ⟨W.heap.size, 0, none⟩) 1 1)).run Tryd.prog (W.alloc (.cells #[.int .u8 (97 + (k : Int))] 5)) = .ok (.string ch) (W.alloc (.cells #[.int .u8 (97 + (k : Int))] 5)) := fun W => by
              rw [hch, Int.add_comm (k : Int) 97]; exact conv1 W _
            have hadd : ∀ W : World, (Op.stringOp .add nm ch).run Tryd.prog W = .ok (.string nn) W := fun W => by
              rw [run_string_add_sum W nm ch (by rw [hnm, hch, nameB_size, strOfNums_size]; simp; omega), hnn]
            have HNN : Hid (nn = nameB (memb x (k + 1))) := by unfold Hid; rw [hnn, hnm, hch, nameB_append, HMY.out]
            have hcs : ∀ o, (wr.alloc o).cell? ⟨w.heap.size + 1 + 1, 1, none⟩ = some (.string nm) := fun o => (((Below.refl wr.heap.size wr).alloc (Nat.le_refl _) o).cell (p := ⟨w.heap.size + 1 + 1, 1, none⟩) (by exact HTW.out.lt)).trans HTW.out.cell.2.1
            have hcs0 := HTW.out.cell.2.1
            have hfs : ∀ o, (wr.alloc o).frozen? ⟨w.heap.size + 1 + 1, 1, none⟩ = false := fun o => (((Below.refl wr.heap.size wr).alloc (Nat.le_refl _) o).frozen (p := ⟨w.heap.size + 1 + 1, 1, none⟩) (by exact HTW.out.lt)).trans (HTW.out.frozen 1)
            clear hnm hch hnn
            go_wp2_with fail
            have hltr : w8.heap.size ≤ wr.heap.size := HBT.out.size
            have HT5 : Hid (ToldAt ((wr.alloc (.cells #[.int .u8 (97 + (k : Int))] 5)).setCell ⟨w.heap.size + 1 + 1, 1, none⟩ (.string nn)) (w.heap.size + 1 + 1) v nn rv) := (HTW.out.block (Below.heap_alloc wr _ (w.heap.size + 1 + 1) HTW.out.lt)).set1 nn
            have HBT5 : Hid (But w8.heap.size (w.heap.size + 1 + 1) w8 ((wr.alloc (.cells #[.int .u8 (97 + (k : Int))] 5)).setCell ⟨w.heap.size + 1 + 1, 1, none⟩ (.string nn))) := (HBT.out.trans (But.of_below ((Below.refl _ wr).alloc hltr _))).trans (But.of_only (only_setCell _ _ _ _))
            have HO5 : Hid (((wr.alloc (.cells #[.int .u8 (97 + (k : Int))] 5)).setCell ⟨w.heap.size + 1 + 1, 1, none⟩ (.string nn)).ownsRow w8.heap.size 3 1 rv (memb x k).length (roleL x (memb x k))) := (But.of_only (B := (wr.alloc (.cells #[.int .u8 (97 + (k : Int))] 5)).heap.size) (only_setCell _ _ _ _)).own (HOW.out.alloc _) (Nat.le_refl _) hlt8
            have HR5 := hide (HBT5.out.reg HR.out (by omega) (by omega))
            have hsz5 : w8.heap.size ≤ ((wr.alloc (.cells #[.int .u8 (97 + (k : Int))] 5)).setCell ⟨w.heap.size + 1 + 1, 1, none⟩ (.string nn)).heap.size := HBT5.out.size
            generalize ((wr.alloc (.cells #[.int .u8 (97 + (k : Int))] 5)).setCell ⟨w.heap.size + 1 + 1, 1, none⟩ (.string nn)) = W5 at HT5 HBT5 HO5 HR5 hsz5 ⊢
            have hc5 := HT5.out.cell.2.2
            have hc5a : ∀ o, (W5.alloc o).cell? ⟨w.heap.size + 1 + 1, 2, none⟩ = some rv := fun o => (((Below.refl W5.heap.size W5).alloc (Nat.le_refl _) o).cell (p := ⟨w.heap.size + 1 + 1, 2, none⟩) (by exact HT5.out.lt)).trans hc5
            clear hcs hcs0 hfs hcv hadd HTW HBT HOW HRW HT1W HPW HBW hcx
            refine wp_region_held_drew (S := fun W => RegAt W w.heap.size 54 x) (by kernel_rfl) HR5.out.drew (fun hHeld => ?_)
            refine takeD 0 (some 37) (.pointer (some ⟨w.heap.size + 1 + 1, 2, none⟩)) rfl rfl (by kernel_rfl) (by kernel_rfl) (by kernel_rfl) (fun _ _ _ h => h) (Or.inl ⟨by rfl, ?_⟩) hHeld ?_
            · intro w hSw
              go_simp
            simp only [Act.put, List.setIfInBounds_toArray, List.set_cons_zero, List.set_cons_succ]
            refine takeD 2 (some 39) (.int .i64 (k : Int)) rfl rfl (by kernel_rfl) (by kernel_rfl) (by kernel_rfl) (fun _ _ _ h => h) (Or.inl ⟨by rfl, ?_⟩) hHeld ?_
            · intro w hSw
              go_simp
            simp only [Act.put, List.setIfInBounds_toArray, List.set_cons_zero, List.set_cons_succ]
            refine takeD 3 (some 40) (.pointer (some ⟨w.heap.size, 8, none⟩)) rfl rfl (by kernel_rfl) (by kernel_rfl) (by kernel_rfl) (fun _ _ _ h => h) (Or.inl ⟨by rfl, ?_⟩) hHeld ?_
            · intro w hSw
              go_simp
            simp only [Act.put, List.setIfInBounds_toArray, List.set_cons_zero, List.set_cons_succ]
            refine takeD 4 (some 41) (.pointer (some ⟨w.heap.size, 8 + k, none⟩)) rfl rfl (by kernel_rfl) (by kernel_rfl) (by kernel_rfl) (fun _ _ _ h => h) (Or.inl ⟨by rfl, ?_⟩) hHeld ?_
            · intro w hSw
              go_simp
            simp only [Act.put, List.setIfInBounds_toArray, List.set_cons_zero, List.set_cons_succ]
            refine takeD 5 (some 42) (.int .i64 (x (8 + k))) rfl rfl (by kernel_rfl) (by kernel_rfl) (by kernel_rfl) (fun _ _ _ h => h) (Or.inl ⟨by rfl, ?_⟩) hHeld ?_
            · intro w hSw
              have hcx := hSw.cell (8 + k) (by omega)
              go_simp
            simp only [Act.put, List.setIfInBounds_toArray, List.set_cons_zero, List.set_cons_succ]
            refine wpAnyH_ready (rs := [1, 6]) (by kernel_rfl) (by simp) ?_
            refine AllReadyH.cons rfl (fun K hK => ?_) (AllReadyH.cons rfl (fun K hK => ?_) AllReadyH.nil)
            · go_simp
              refine hK.out _ _ hHeld (fun hHeld => ?_)
              clear hK K
              refine wpAnyH_ready (rs := [6]) (by kernel_rfl) (by simp) ?_
              refine AllReadyH.cons rfl (fun K hK => ?_) AllReadyH.nil
              go_simp
              refine hK.out _ _ (hHeld.below ((Below.refl _ _).alloc (Nat.le_refl _) _)) (fun hHeld => ?_)
              clear hK K
              refine wpAnyH_ready (rs := [7]) (by kernel_rfl) (by simp) ?_
              refine AllReadyH.cons rfl (fun K hK => ?_) AllReadyH.nil
              rw [if_pos (by rfl)]
              refine wp_append_own _ _ _ 38 rfl w8.heap.size 3 i3 (.int .i64 0) 1 8 Tryd.underlying38 hi hz0 hz1 hz2 rfl (by decide) rv (memb x k).length (roleL x (memb x k)) rfl (HO5.out.drew.alloc _) ⟨W5.heap.size, 0, none⟩ 1 1 [.int .i64 (x (8 + k))] rfl rfl ?_ ?_ (by unfold maxLen; omega) (by omega) (by simp; omega) ?_
              · intro j u hj
                match j, hj with
                | 0, hj => simp at hj; subst hj; simp [Addr.add]
              · intro u hu; simp at hu; subst hu; rfl
              intro v' w6 hown' hgrow _
              obtain ⟨p', c', rfl⟩ := own_slice hown'
              have HOW6 := hide hown'
              have HB6 : Hid (Below w8.heap.size W5 w6) := ((Below.refl _ _).drew.alloc (by simp; omega) _).grown hgrow (by simp; omega) (fun j hj => (HO5.out.lt j hj).1)
              clear hown' hgrow
              have HR6 := hide (HR5.out.later HB6.out (by omega))
              have HT6 := hide (HT5.out.block (HB6.out.block (w.heap.size + 1 + 1) (by omega)))
              have hf6 := HT6.out.frozen 2
              have hc6 := HT6.out.cell.2.2
              refine hK.out _ _ HR6.out (fun hHeld => ?_)
              clear hK K
              refine takeD 8 (some 45) (.pointer (some ⟨w.heap.size + 1 + 1, 2, none⟩)) rfl rfl (by kernel_rfl) (by kernel_rfl) (by kernel_rfl) (fun _ _ _ h => h) (Or.inl ⟨by rfl, ?_⟩) hHeld ?_
              · intro w hSw
                go_simp
              simp only [Act.put, List.setIfInBounds_toArray, List.set_cons_zero, List.set_cons_succ]
              refine wpAnyH_ready (rs := [9]) (by kernel_rfl) (by simp) ?_
              refine AllReadyH.cons rfl (fun K hK => ?_) AllReadyH.nil
              go_simp
              refine hK.out _ _ (hHeld.only (only_setCell w6 (w.heap.size + 1 + 1) 2 (.slice p' ((memb x k).length + 1) c')) (by omega)) (fun hHeld => ?_)
              clear hK K
              refine wpAnyH_done (by kernel_rfl) ?_ _
              go_wp2
              go_roundw
              case rel => exact ⟨k + 1, .slice p' ((memb x k).length + 1) c', by omega, by go_num, (HBT5.out.trans (But.of_below HB6.out)).trans (But.of_only (only_setCell _ _ _ _)), by rw [← HNN.out]; exact HT6.out.set2 _, (But.of_only (B := w6.heap.size) (only_setCell w6 (w.heap.size + 1 + 1) 2 (.slice p' ((memb x k).length + 1) c'))).own (by rw [HMY.out, roleL_append, List.length_append]; exact HOW6.out) (Nat.le_refl _) (by omega)⟩
              case measure => simp [intOf]; omega
            · go_simp
              refine hK.out _ _ (hHeld.below ((Below.refl _ _).alloc (Nat.le_refl _) _)) (fun hHeld => ?_)
              clear hK K
              refine wpAnyH_ready (rs := [1]) (by kernel_rfl) (by simp) ?_
              refine AllReadyH.cons rfl (fun K hK => ?_) AllReadyH.nil
              go_simp
              refine hK.out _ _ hHeld (fun hHeld => ?_)
              clear hK K
              refine wpAnyH_ready (rs := [7]) (by kernel_rfl) (by simp) ?_
              refine AllReadyH.cons rfl (fun K hK => ?_) AllReadyH.nil
              rw [if_pos (by rfl)]
              refine wp_append_own _ _ _ 38 rfl w8.heap.size 3 i3 (.int .i64 0) 1 8 Tryd.underlying38 hi hz0 hz1 hz2 rfl (by decide) rv (memb x k).length (roleL x (memb x k)) rfl (HO5.out.drew.alloc _) ⟨W5.heap.size, 0, none⟩ 1 1 [.int .i64 (x (8 + k))] rfl rfl ?_ ?_ (by unfold maxLen; omega) (by omega) (by simp; omega) ?_
              · intro j u hj
                match j, hj with
                | 0, hj => simp at hj; subst hj; simp [Addr.add]
              · intro u hu; simp at hu; subst hu; rfl
              intro v' w6 hown' hgrow _
              obtain ⟨p', c', rfl⟩ := own_slice hown'
              have HOW6 := hide hown'
              have HB6 : Hid (Below w8.heap.size W5 w6) := ((Below.refl _ _).drew.alloc (by simp; omega) _).grown hgrow (by simp; omega) (fun j hj => (HO5.out.lt j hj).1)
              clear hown' hgrow
              have HR6 := hide (HR5.out.later HB6.out (by omega))
              have HT6 := hide (HT5.out.block (HB6.out.block (w.heap.size + 1 + 1) (by omega)))
              have hf6 := HT6.out.frozen 2
              have hc6 := HT6.out.cell.2.2
              refine hK.out _ _ HR6.out (fun hHeld => ?_)
              clear hK K
              refine takeD 8 (some 45) (.pointer (some ⟨w.heap.size + 1 + 1, 2, none⟩)) rfl rfl (by kernel_rfl) (by kernel_rfl) (by kernel_rfl) (fun _ _ _ h => h) (Or.inl ⟨by rfl, ?_⟩) hHeld ?_
              · intro w hSw
                go_simp
              simp only [Act.put, List.setIfInBounds_toArray, List.set_cons_zero, List.set_cons_succ]
              refine wpAnyH_ready (rs := [9]) (by kernel_rfl) (by simp) ?_
              refine AllReadyH.cons rfl (fun K hK => ?_) AllReadyH.nil
              go_simp
              refine hK.out _ _ (hHeld.only (only_setCell w6 (w.heap.size + 1 + 1) 2 (.slice p' ((memb x k).length + 1) c')) (by omega)) (fun hHeld => ?_)
              clear hK K
              refine wpAnyH_done (by kernel_rfl) ?_ _
              go_wp2
              go_roundw
              case rel => exact ⟨k + 1, .slice p' ((memb x k).length + 1) c', by omega, by go_num, (HBT5.out.trans (But.of_below HB6.out)).trans (But.of_only (only_setCell _ _ _ _)), by rw [← HNN.out]; exact HT6.out.set2 _, (But.of_only (B := w6.heap.size) (only_setCell w6 (w.heap.size + 1 + 1) 2 (.slice p' ((memb x k).length + 1) c'))).own (by rw [HMY.out, roleL_append, List.length_append]; exact HOW6.out) (Nat.le_refl _) (by omega)⟩
              case measure => simp [intOf]; omega
          · have HMN := hide (memb_no x k hpos)
            go_wp2
            go_roundw
            case rel => exact ⟨k + 1, rv, by omega, by go_num, HBT.out, by rw [HMN.out]; exact HTW.out, by rw [HMN.out]; exact HOW.out⟩
            case measure => simp [intOf]; omega
    · have hki : (k : Int) < 8 := by omega
      go_wp2_with fail
      refine wp_region_held_drew (S := fun W => RegAt W w.heap.size 54 x) (by kernel_rfl) HR.out.drew (fun hHeld => ?_)
      refine takeD 0 (some 10) (.pointer (some ⟨w.heap.size + 1 + 1, 0, none⟩)) rfl rfl (by kernel_rfl) (by kernel_rfl) (by kernel_rfl) (fun _ _ _ h => h) (Or.inl ⟨by rfl, ?_⟩) hHeld ?_
      · intro w hSw
        go_simp
      simp only [Act.put, List.setIfInBounds_toArray, List.set_cons_zero, List.set_cons_succ]
      refine takeD 2 (some 12) (.int .i64 (k : Int)) rfl rfl (by kernel_rfl) (by kernel_rfl) (by kernel_rfl) (fun _ _ _ h => h) (Or.inl ⟨by rfl, ?_⟩) hHeld ?_
      · intro w hSw
        go_simp
      simp only [Act.put, List.setIfInBounds_toArray, List.set_cons_zero, List.set_cons_succ]
      refine takeD 3 (some 13) (.pointer (some ⟨w.heap.size, 0, none⟩)) rfl rfl (by kernel_rfl) (by kernel_rfl) (by kernel_rfl) (fun _ _ _ h => h) (Or.inl ⟨by rfl, ?_⟩) hHeld ?_
      · intro w hSw
        go_simp
      simp only [Act.put, List.setIfInBounds_toArray, List.set_cons_zero, List.set_cons_succ]
      refine takeD 4 (some 14) (.pointer (some ⟨w.heap.size, k, none⟩)) rfl rfl (by kernel_rfl) (by kernel_rfl) (by kernel_rfl) (fun _ _ _ h => h) (Or.inl ⟨by rfl, ?_⟩) hHeld ?_
      · intro w hSw
        go_simp
      simp only [Act.put, List.setIfInBounds_toArray, List.set_cons_zero, List.set_cons_succ]
      refine takeD 5 (some 15) (.int .i64 (x k)) rfl rfl (by kernel_rfl) (by kernel_rfl) (by kernel_rfl) (fun _ _ _ h => h) (Or.inl ⟨by rfl, ?_⟩) hHeld ?_
      · intro w hSw
        have hcx := hSw.cell k (by omega)
        go_simp
      simp only [Act.put, List.setIfInBounds_toArray, List.set_cons_zero, List.set_cons_succ]
      refine wpAnyH_ready (rs := [1, 6]) (by kernel_rfl) (by simp) ?_
      refine AllReadyH.cons rfl (fun K hK => ?_) (AllReadyH.cons rfl (fun K hK => ?_) AllReadyH.nil)
      · go_simp
        refine hK.out _ _ hHeld (fun hHeld => ?_)
        clear hK K
        refine wpAnyH_ready (rs := [6]) (by kernel_rfl) (by simp) ?_
        refine AllReadyH.cons rfl (fun K hK => ?_) AllReadyH.nil
        go_simp
        refine hK.out _ _ (hHeld.below ((Below.refl _ _).alloc (Nat.le_refl _) _)) (fun hHeld => ?_)
        clear hK K
        refine wpAnyH_ready (rs := [7]) (by kernel_rfl) (by simp) ?_
        refine AllReadyH.cons rfl (fun K hK => ?_) AllReadyH.nil
        rw [if_pos (by rfl)]
        refine wp_append_own _ _ _ 38 rfl (w.heap.size + 1 + 1 + 1) 3 i3 (.int .i64 0) 1 8 Tryd.underlying38 hi hz0 hz1 hz2 rfl (by decide) v k (powL x k) rfl (HO.out.drew.alloc _) ⟨wr.heap.size, 0, none⟩ 1 1 [.int .i64 (x k)] rfl rfl ?_ ?_ (by unfold maxLen; omega) (by omega) (by have := HT2.out.lt; simp; omega) ?_
        · intro j u hj
          match j, hj with
          | 0, hj => simp at hj; subst hj; simp [Addr.add]
        · intro u hu; simp at hu; subst hu; rfl
        intro v' w3 hown' hgrow _
        obtain ⟨p', c', rfl⟩ := own_slice hown'
        have HOW := hide hown'
        have HBT : Hid (Below (w.heap.size + 1 + 1 + 1) wr w3) := ((Below.refl _ _).drew.alloc (by have := HT2.out.lt; simp; omega) _).grown hgrow (by have := HT2.out.lt; simp; omega) (fun j hj => (HO.out.lt j hj).1)
        clear hown' hgrow
        have HR3 := hide (HR.out.later HBT.out (by omega))
        have HT3 := hide (HT2.out.block (HBT.out.block (w.heap.size + 1 + 1) (by omega)))
        have hf3 := HT3.out.frozen 0
        have hc3 := HT3.out.cell.1
        refine hK.out _ _ HR3.out (fun hHeld => ?_)
        clear hK K
        refine takeD 8 (some 18) (.pointer (some ⟨w.heap.size + 1 + 1, 0, none⟩)) rfl rfl (by kernel_rfl) (by kernel_rfl) (by kernel_rfl) (fun _ _ _ h => h) (Or.inl ⟨by rfl, ?_⟩) hHeld ?_
        · intro w hSw
          go_simp
        simp only [Act.put, List.setIfInBounds_toArray, List.set_cons_zero, List.set_cons_succ]
        refine wpAnyH_ready (rs := [9]) (by kernel_rfl) (by simp) ?_
        refine AllReadyH.cons rfl (fun K hK => ?_) AllReadyH.nil
        go_simp
        refine hK.out _ _ (hHeld.only (only_setCell w3 (w.heap.size + 1 + 1) 0 (.slice p' (k + 1) c')) (by omega)) (fun hHeld => ?_)
        clear hK K
        refine wpAnyH_done (by kernel_rfl) ?_ _
        go_wp2
        go_roundw
        case rel => exact ⟨k + 1, .slice p' (k + 1) c', by omega, by go_num, hHeld, (HT1.out.block (HBT.out.block (w.heap.size + 1) (by omega))).block ((only_setCell w3 (w.heap.size + 1 + 1) 0 (.slice p' (k + 1) c')).block (w.heap.size + 1) (by omega)), HT3.out.set0 (.slice p' (k + 1) c'), (But.of_only (B := w3.heap.size) (only_setCell w3 (w.heap.size + 1 + 1) 0 (.slice p' (k + 1) c'))).own (by rw [powL_succ]; exact HOW.out) (Nat.le_refl _) (by omega), (HB.out.trans (HBT.out.mono (by omega))).trans ((only_setCell _ _ _ _).below (by omega))⟩
        case measure => simp [intOf]; omega
      · go_simp
        refine hK.out _ _ (hHeld.below ((Below.refl _ _).alloc (Nat.le_refl _) _)) (fun hHeld => ?_)
        clear hK K
        refine wpAnyH_ready (rs := [1]) (by kernel_rfl) (by simp) ?_
        refine AllReadyH.cons rfl (fun K hK => ?_) AllReadyH.nil
        go_simp
        refine hK.out _ _ hHeld (fun hHeld => ?_)
        clear hK K
        refine wpAnyH_ready (rs := [7]) (by kernel_rfl) (by simp) ?_
        refine AllReadyH.cons rfl (fun K hK => ?_) AllReadyH.nil
        rw [if_pos (by rfl)]
        refine wp_append_own _ _ _ 38 rfl (w.heap.size + 1 + 1 + 1) 3 i3 (.int .i64 0) 1 8 Tryd.underlying38 hi hz0 hz1 hz2 rfl (by decide) v k (powL x k) rfl (HO.out.drew.alloc _) ⟨wr.heap.size, 0, none⟩ 1 1 [.int .i64 (x k)] rfl rfl ?_ ?_ (by unfold maxLen; omega) (by omega) (by have := HT2.out.lt; simp; omega) ?_
        · intro j u hj
          match j, hj with
          | 0, hj => simp at hj; subst hj; simp [Addr.add]
        · intro u hu; simp at hu; subst hu; rfl
        intro v' w3 hown' hgrow _
        obtain ⟨p', c', rfl⟩ := own_slice hown'
        have HOW := hide hown'
        have HBT : Hid (Below (w.heap.size + 1 + 1 + 1) wr w3) := ((Below.refl _ _).drew.alloc (by have := HT2.out.lt; simp; omega) _).grown hgrow (by have := HT2.out.lt; simp; omega) (fun j hj => (HO.out.lt j hj).1)
        clear hown' hgrow
        have HR3 := hide (HR.out.later HBT.out (by omega))
        have HT3 := hide (HT2.out.block (HBT.out.block (w.heap.size + 1 + 1) (by omega)))
        have hf3 := HT3.out.frozen 0
        have hc3 := HT3.out.cell.1
        refine hK.out _ _ HR3.out (fun hHeld => ?_)
        clear hK K
        refine takeD 8 (some 18) (.pointer (some ⟨w.heap.size + 1 + 1, 0, none⟩)) rfl rfl (by kernel_rfl) (by kernel_rfl) (by kernel_rfl) (fun _ _ _ h => h) (Or.inl ⟨by rfl, ?_⟩) hHeld ?_
        · intro w hSw
          go_simp
        simp only [Act.put, List.setIfInBounds_toArray, List.set_cons_zero, List.set_cons_succ]
        refine wpAnyH_ready (rs := [9]) (by kernel_rfl) (by simp) ?_
        refine AllReadyH.cons rfl (fun K hK => ?_) AllReadyH.nil
        go_simp
        refine hK.out _ _ (hHeld.only (only_setCell w3 (w.heap.size + 1 + 1) 0 (.slice p' (k + 1) c')) (by omega)) (fun hHeld => ?_)
        clear hK K
        refine wpAnyH_done (by kernel_rfl) ?_ _
        go_wp2
        go_roundw
        case rel => exact ⟨k + 1, .slice p' (k + 1) c', by omega, by go_num, hHeld, (HT1.out.block (HBT.out.block (w.heap.size + 1) (by omega))).block ((only_setCell w3 (w.heap.size + 1 + 1) 0 (.slice p' (k + 1) c')).block (w.heap.size + 1) (by omega)), HT3.out.set0 (.slice p' (k + 1) c'), (But.of_only (B := w3.heap.size) (only_setCell w3 (w.heap.size + 1 + 1) 0 (.slice p' (k + 1) c'))).own (by rw [powL_succ]; exact HOW.out) (Nat.le_refl _) (by omega), (HB.out.trans (HBT.out.mono (by omega))).trans ((only_setCell _ _ _ _).below (by omega))⟩
        case measure => simp [intOf]; omega

end Go.Proofs.YtcfjhbcpjpgodaaDoor
