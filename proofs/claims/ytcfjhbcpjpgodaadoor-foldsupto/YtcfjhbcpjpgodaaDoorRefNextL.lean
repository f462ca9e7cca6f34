/- Proved here: what the document's Next answers at a record of one who leaves. -/
import Derived.Test.YtcfjhbcpjpgodaaDoorRefForm
import Derived.Test.YtcfjhbcpjpgodaaDoorReg1
namespace Go.Proofs.YtcfjhbcpjpgodaaDoor
open Go.RowKit

set_option maxRecDepth 100000 in
set_option maxHeartbeats 3200000 in
theorem next_l (x : Nat → Int) (t : ByteArray) (m : Nat) (w : World) (hm : m < 26)
    (a0 : ∀ W : World, (Instr.index 9 (.string t) (.int .i64 0)).run Tryd.prog W = .ok (.int .u8 108) W) (a1 : ∀ W : World, (Instr.index 9 (.string t) (.int .i64 1)).run Tryd.prog W = .ok (.int .u8 ((m : Int) + 97)) W) :
    Calls Tryd.prog 64 #[.agg (regA x), .string t] w fun e w' => e = .returned (.tuple #[.agg (regA (upd x (8 + m) 0)), .bool (decide (x (8 + m) ≠ 0) && decide (x (8 + m) ≠ 0))]) ∧ Below w.heap.size w w' := by
  have e1 : letN ((m : Int) + 97) = m := by rw [letN_yes (by omega)]; omega
  have z0 := regA_zero
  have hr0 : ∀ o, RegAt ((w.alloc (.cells (regA x) 54)).alloc o) w.heap.size 54 x := fun o => (RegAt.alloc w 54 x).below ((Below.refl _ _).alloc (Nat.le_refl _) _)
  have hst : ∀ (o1 o2 : Obj) (y z : Nat → Int), (storeCells ⟨w.heap.size + 1 + 1, 0, none⟩ (regA y).toList).run Tryd.prog (((w.alloc o1).alloc o2).alloc (.cells (regA z) 54)) = .ok () (((w.alloc o1).alloc o2).alloc (.cells (regA y) 54)) := fun o1 o2 y z => by
    have := run_storeCells_new (P := Tryd.prog) ((w.alloc o1).alloc o2) 54 z y
    simpa using this
  have hxk := regA_get x (8 + m) (by omega)
  have hset := regA_set x (8 + m) 0 (by omega)
  have hm8 : (m : Int) < 26 := by omega
  go_enter Tryd.func64, Tryd.ntmps64
  go_wp2_with (first | (refine wpList_load_reg rfl 54 _ rfl _ rfl 54 x _ (hr0 _) Tryd.underlying54 rfl Tryd.sizeReg ?_) | (go_at_call 74; refine (letter_any _ _ (by omega) (by omega)).mono ?_; rintro e w1 ⟨rfl, rfl⟩) | (go_at_call 73; refine (digit_any _ _ (by omega) (by omega)).mono ?_; rintro e w1 ⟨rfl, rfl⟩))
  have HA : Hid (RegAt (((w.alloc (.cells (regA x) 54)).alloc (.cells (regA reg0) 54)).alloc (.cells (regA (upd x (8 + m) 0)) 54)) (w.heap.size + 1 + 1) 54 (upd x (8 + m) 0)) := by
    have := RegAt.alloc ((w.alloc (.cells (regA x) 54)).alloc (.cells (regA reg0) 54)) 54 (upd x (8 + m) 0)
    have h2 : RegAt (((w.alloc (.cells (regA x) 54)).alloc (.cells (regA reg0) 54)).alloc (.cells (regA (upd x (8 + m) 0)) 54)) (w.heap.size + 1 + 1) 54 (upd x (8 + m) 0) := by simpa using this
    exact h2
  have HD : Hid (RegAt (((w.alloc (.cells (regA x) 54)).alloc (.cells (regA reg0) 54)).alloc (.cells (regA (upd x (8 + m) 0)) 54)) (w.heap.size + 1) 54 reg0) := by
    have := (RegAt.alloc (w.alloc (.cells (regA x) 54)) 54 reg0).below ((Below.refl _ _).alloc (Nat.le_refl _) (.cells (regA (upd x (8 + m) 0)) 54))
    have h2 : RegAt (((w.alloc (.cells (regA x) 54)).alloc (.cells (regA reg0) 54)).alloc (.cells (regA (upd x (8 + m) 0)) 54)) (w.heap.size + 1) 54 reg0 := by simpa using this
    exact h2
  have HB : Hid (Below w.heap.size w (((w.alloc (.cells (regA x) 54)).alloc (.cells (regA reg0) 54)).alloc (.cells (regA (upd x (8 + m) 0)) 54))) := (((Below.refl _ w).alloc (Nat.le_refl _) _).alloc (by simp) _).alloc (by simp; omega) _
  clear hr0 hst hxk hset z0 e1 a1
  generalize ((w.alloc (.cells (regA x) 54)).alloc (.cells (regA reg0) 54)).alloc (.cells (regA (upd x (8 + m) 0)) 54) = W4 at HA HD HB ⊢
  by_cases hz : x (8 + m) = 0
  · have hzb : (x (8 + m) == 0) = true := by simpa using hz
    have HR : Hid ((decide (x (8 + m) ≠ 0) && decide (x (8 + m) ≠ 0)) = false) := by unfold Hid; simp only [Bool.and_eq_false_iff, decide_eq_false_iff_not]; omega
    clear hz
    refine wp_region_held_drew (S := (fun w' => RegAt w' (w.heap.size + 1 + 1) 54 (upd x (8 + m) 0) ∧ (∃ q, RegAt w' (w.heap.size + 1) 54 q) ∧ Below w.heap.size w w')) (by kernel_rfl) ⟨HA.out.drew, ⟨reg0, HD.out.drew⟩, HB.out.drew⟩ (fun hHeld => ?_)
    refine takeD 0 (some 50) (.agg (regA (upd x (8 + m) 0))) rfl rfl (by kernel_rfl) (by kernel_rfl) (by kernel_rfl) (fun _ _ _ h => h) (yields_load_reg (by rfl) 54 _ rfl (w.heap.size + 1 + 1) rfl 54 (upd x (8 + m) 0) _ (fun w h => h.1) Tryd.underlying54 rfl Tryd.sizeReg) hHeld ?_
    simp only [Act.put, List.setIfInBounds_toArray, List.set_cons_zero, List.set_cons_succ]
    refine takeD 1 (some 51) (.string t) rfl rfl (by kernel_rfl) (by kernel_rfl) (by kernel_rfl) (fun _ _ _ h => h) (Or.inl ⟨by rfl, ?_⟩) hHeld ?_
    · intro w hSw
      go_simp
    simp only [Act.put, List.setIfInBounds_toArray, List.set_cons_zero, List.set_cons_succ]
    refine takeD 2 (some 52) (.int .u8 108) rfl rfl (by kernel_rfl) (by kernel_rfl) (by kernel_rfl) (fun _ _ _ h => h) (Or.inl ⟨by rfl, ?_⟩) hHeld ?_
    · intro w hSw
      go_simp
    simp only [Act.put, List.setIfInBounds_toArray, List.set_cons_zero, List.set_cons_succ]
    refine takeD 3 (some 53) (.bool false) rfl rfl (by kernel_rfl) (by kernel_rfl) (by kernel_rfl) (fun _ _ _ h => h) (Or.inl ⟨by rfl, ?_⟩) hHeld ?_
    · intro w hSw
      go_simp
    simp only [Act.put, List.setIfInBounds_toArray, List.set_cons_zero, List.set_cons_succ]
    refine takeD 4 (some 54) (.int .i64 (x (8 + m))) rfl rfl (by kernel_rfl) (by kernel_rfl) (by kernel_rfl) (fun _ _ _ h => h) (Or.inl ⟨by rfl, ?_⟩) hHeld ?_
    · intro w hSw
      go_simp
    simp only [Act.put, List.setIfInBounds_toArray, List.set_cons_zero, List.set_cons_succ]
    refine takeD 5 (some 55) (.bool true) rfl rfl (by kernel_rfl) (by kernel_rfl) (by kernel_rfl) (fun _ _ _ h => h) (Or.inl ⟨by rfl, ?_⟩) hHeld ?_
    · intro w hSw
      go_simp
    simp only [Act.put, List.setIfInBounds_toArray, List.set_cons_zero, List.set_cons_succ]
    refine takeD 6 (some 56) (.bool false) rfl rfl (by kernel_rfl) (by kernel_rfl) (by kernel_rfl) (fun _ _ _ h => h) (Or.inl ⟨by rfl, ?_⟩) hHeld ?_
    · intro w hSw
      go_simp
    simp only [Act.put, List.setIfInBounds_toArray, List.set_cons_zero, List.set_cons_succ]
    refine takeD 7 (some 57) (.bool false) rfl rfl (by kernel_rfl) (by kernel_rfl) (by kernel_rfl) (fun _ _ _ h => h) (Or.inl ⟨by rfl, ?_⟩) hHeld ?_
    · intro w hSw
      go_simp
    simp only [Act.put, List.setIfInBounds_toArray, List.set_cons_zero, List.set_cons_succ]
    refine takeD 8 (some 58) undef rfl rfl (by kernel_rfl) (by kernel_rfl) (by kernel_rfl) (fun _ _ _ h => h) (Or.inr ⟨by rfl, rfl⟩) hHeld ?_
    simp only [Act.put, List.setIfInBounds_toArray, List.set_cons_zero, List.set_cons_succ]
    refine takeD 9 (some 59) undef rfl rfl (by kernel_rfl) (by kernel_rfl) (by kernel_rfl) (fun _ _ _ h => h) (Or.inr ⟨by rfl, rfl⟩) hHeld ?_
    simp only [Act.put, List.setIfInBounds_toArray, List.set_cons_zero, List.set_cons_succ]
    refine takeD 10 (some 60) undef rfl rfl (by kernel_rfl) (by kernel_rfl) (by kernel_rfl) (fun _ _ _ h => h) (Or.inr ⟨by rfl, rfl⟩) hHeld ?_
    simp only [Act.put, List.setIfInBounds_toArray, List.set_cons_zero, List.set_cons_succ]
    refine takeD 11 (some 61) (.bool false) rfl rfl (by kernel_rfl) (by kernel_rfl) (by kernel_rfl) (fun _ _ _ h => h) (Or.inl ⟨by rfl, ?_⟩) hHeld ?_
    · intro w hSw
      go_simp
    simp only [Act.put, List.setIfInBounds_toArray, List.set_cons_zero, List.set_cons_succ]
    refine wpAnyH_ready (rs := [12]) (by kernel_rfl) (by simp) ?_
    refine AllReadyH.cons rfl (fun K hK => ?_) AllReadyH.nil
    rw [if_pos (by rfl)]
    refine wp_store_reg 54 _ _ rfl (w.heap.size + 1) (upd x (8 + m) 0) rfl rfl 54 (regA hHeld.2.1.choose) hHeld.2.1.choose_spec (regA_size _) Tryd.sizeReg ?_
    intro w2 hq ho
    have HQ := hide hq
    refine hK.out _ _ ⟨hHeld.1.only ho (by omega), ⟨_, hq⟩, hHeld.2.2.trans (ho.below (by omega))⟩ (fun hHeld => ?_)
    clear hK K hq ho
    refine wpAnyH_ready (rs := [13]) (by kernel_rfl) (by simp) ?_
    refine AllReadyH.cons rfl (fun K hK => ?_) AllReadyH.nil
    go_simp
    refine hK.out _ _ hHeld (fun hHeld => ?_)
    clear hK K
    refine wpAnyH_done (by kernel_rfl) ?_ _
    go_wp2
    exact bodyPost_ret (v := .tuple #[.agg (regA (upd x (8 + m) 0)), .bool false]) (results_reg2 Tryd.results64 _ _ (w.heap.size + 1) 54 (upd x (8 + m) 0) _ _ rfl rfl HQ.out Tryd.underlying54 rfl Tryd.sizeReg) rfl ⟨by rw [HR.out], hHeld.2.2⟩
  · have hzb : (x (8 + m) == 0) = false := by simpa using hz
    by_cases hn : x (8 + m) = 0
    · have HR : Hid ((decide (x (8 + m) ≠ 0) && decide (x (8 + m) ≠ 0)) = false) := by unfold Hid; simp only [Bool.and_eq_false_iff, decide_eq_false_iff_not]; omega
      have hnb : (x (8 + m) != 0) = false := by simp [hn]
      clear hn hz
      refine wp_region_held_drew (S := (fun w' => RegAt w' (w.heap.size + 1 + 1) 54 (upd x (8 + m) 0) ∧ (∃ q, RegAt w' (w.heap.size + 1) 54 q) ∧ Below w.heap.size w w')) (by kernel_rfl) ⟨HA.out.drew, ⟨reg0, HD.out.drew⟩, HB.out.drew⟩ (fun hHeld => ?_)
      refine takeD 0 (some 50) (.agg (regA (upd x (8 + m) 0))) rfl rfl (by kernel_rfl) (by kernel_rfl) (by kernel_rfl) (fun _ _ _ h => h) (yields_load_reg (by rfl) 54 _ rfl (w.heap.size + 1 + 1) rfl 54 (upd x (8 + m) 0) _ (fun w h => h.1) Tryd.underlying54 rfl Tryd.sizeReg) hHeld ?_
      simp only [Act.put, List.setIfInBounds_toArray, List.set_cons_zero, List.set_cons_succ]
      refine takeD 1 (some 51) (.string t) rfl rfl (by kernel_rfl) (by kernel_rfl) (by kernel_rfl) (fun _ _ _ h => h) (Or.inl ⟨by rfl, ?_⟩) hHeld ?_
      · intro w hSw
        go_simp
      simp only [Act.put, List.setIfInBounds_toArray, List.set_cons_zero, List.set_cons_succ]
      refine takeD 2 (some 52) (.int .u8 108) rfl rfl (by kernel_rfl) (by kernel_rfl) (by kernel_rfl) (fun _ _ _ h => h) (Or.inl ⟨by rfl, ?_⟩) hHeld ?_
      · intro w hSw
        go_simp
      simp only [Act.put, List.setIfInBounds_toArray, List.set_cons_zero, List.set_cons_succ]
      refine takeD 3 (some 53) (.bool false) rfl rfl (by kernel_rfl) (by kernel_rfl) (by kernel_rfl) (fun _ _ _ h => h) (Or.inl ⟨by rfl, ?_⟩) hHeld ?_
      · intro w hSw
        go_simp
      simp only [Act.put, List.setIfInBounds_toArray, List.set_cons_zero, List.set_cons_succ]
      refine takeD 4 (some 54) (.int .i64 (x (8 + m))) rfl rfl (by kernel_rfl) (by kernel_rfl) (by kernel_rfl) (fun _ _ _ h => h) (Or.inl ⟨by rfl, ?_⟩) hHeld ?_
      · intro w hSw
        go_simp
      simp only [Act.put, List.setIfInBounds_toArray, List.set_cons_zero, List.set_cons_succ]
      refine takeD 5 (some 55) (.bool false) rfl rfl (by kernel_rfl) (by kernel_rfl) (by kernel_rfl) (fun _ _ _ h => h) (Or.inl ⟨by rfl, ?_⟩) hHeld ?_
      · intro w hSw
        go_simp
      simp only [Act.put, List.setIfInBounds_toArray, List.set_cons_zero, List.set_cons_succ]
      refine takeD 6 (some 56) (.bool true) rfl rfl (by kernel_rfl) (by kernel_rfl) (by kernel_rfl) (fun _ _ _ h => h) (Or.inl ⟨by rfl, ?_⟩) hHeld ?_
      · intro w hSw
        go_simp
      simp only [Act.put, List.setIfInBounds_toArray, List.set_cons_zero, List.set_cons_succ]
      refine takeD 7 (some 57) (.bool true) rfl rfl (by kernel_rfl) (by kernel_rfl) (by kernel_rfl) (fun _ _ _ h => h) (Or.inl ⟨by rfl, ?_⟩) hHeld ?_
      · intro w hSw
        go_simp
      simp only [Act.put, List.setIfInBounds_toArray, List.set_cons_zero, List.set_cons_succ]
      refine takeD 8 (some 58) (.int .i64 (x (8 + m))) rfl rfl (by kernel_rfl) (by kernel_rfl) (by kernel_rfl) (fun _ _ _ h => h) (Or.inl ⟨by rfl, ?_⟩) hHeld ?_
      · intro w hSw
        go_simp
      simp only [Act.put, List.setIfInBounds_toArray, List.set_cons_zero, List.set_cons_succ]
      refine takeD 9 (some 59) (.int .i64 0) rfl rfl (by kernel_rfl) (by kernel_rfl) (by kernel_rfl) (fun _ _ _ h => h) (Or.inl ⟨by rfl, ?_⟩) hHeld ?_
      · intro w hSw
        go_simp
      simp only [Act.put, List.setIfInBounds_toArray, List.set_cons_zero, List.set_cons_succ]
      refine takeD 10 (some 60) (.bool false) rfl rfl (by kernel_rfl) (by kernel_rfl) (by kernel_rfl) (fun _ _ _ h => h) (Or.inl ⟨by rfl, ?_⟩) hHeld ?_
      · intro w hSw
        go_simp
      simp only [Act.put, List.setIfInBounds_toArray, List.set_cons_zero, List.set_cons_succ]
      refine takeD 11 (some 61) (.bool false) rfl rfl (by kernel_rfl) (by kernel_rfl) (by kernel_rfl) (fun _ _ _ h => h) (Or.inl ⟨by rfl, ?_⟩) hHeld ?_
      · intro w hSw
        go_simp
      simp only [Act.put, List.setIfInBounds_toArray, List.set_cons_zero, List.set_cons_succ]
      refine wpAnyH_ready (rs := [12]) (by kernel_rfl) (by simp) ?_
      refine AllReadyH.cons rfl (fun K hK => ?_) AllReadyH.nil
      rw [if_pos (by rfl)]
      refine wp_store_reg 54 _ _ rfl (w.heap.size + 1) (upd x (8 + m) 0) rfl rfl 54 (regA hHeld.2.1.choose) hHeld.2.1.choose_spec (regA_size _) Tryd.sizeReg ?_
      intro w2 hq ho
      have HQ := hide hq
      refine hK.out _ _ ⟨hHeld.1.only ho (by omega), ⟨_, hq⟩, hHeld.2.2.trans (ho.below (by omega))⟩ (fun hHeld => ?_)
      clear hK K hq ho
      refine wpAnyH_ready (rs := [13]) (by kernel_rfl) (by simp) ?_
      refine AllReadyH.cons rfl (fun K hK => ?_) AllReadyH.nil
      go_simp
      refine hK.out _ _ hHeld (fun hHeld => ?_)
      clear hK K
      refine wpAnyH_done (by kernel_rfl) ?_ _
      go_wp2
      exact bodyPost_ret (v := .tuple #[.agg (regA (upd x (8 + m) 0)), .bool false]) (results_reg2 Tryd.results64 _ _ (w.heap.size + 1) 54 (upd x (8 + m) 0) _ _ rfl rfl HQ.out Tryd.underlying54 rfl Tryd.sizeReg) rfl ⟨by rw [HR.out], hHeld.2.2⟩
    · have HR : Hid ((decide (x (8 + m) ≠ 0) && decide (x (8 + m) ≠ 0)) = true) := by unfold Hid; simp only [Bool.and_eq_true, decide_eq_true_eq]; omega
      have hnb : (x (8 + m) != 0) = true := by simp [hn]
      clear hn hz
      refine wp_region_held_drew (S := (fun w' => RegAt w' (w.heap.size + 1 + 1) 54 (upd x (8 + m) 0) ∧ (∃ q, RegAt w' (w.heap.size + 1) 54 q) ∧ Below w.heap.size w w')) (by kernel_rfl) ⟨HA.out.drew, ⟨reg0, HD.out.drew⟩, HB.out.drew⟩ (fun hHeld => ?_)
      refine takeD 0 (some 50) (.agg (regA (upd x (8 + m) 0))) rfl rfl (by kernel_rfl) (by kernel_rfl) (by kernel_rfl) (fun _ _ _ h => h) (yields_load_reg (by rfl) 54 _ rfl (w.heap.size + 1 + 1) rfl 54 (upd x (8 + m) 0) _ (fun w h => h.1) Tryd.underlying54 rfl Tryd.sizeReg) hHeld ?_
      simp only [Act.put, List.setIfInBounds_toArray, List.set_cons_zero, List.set_cons_succ]
      refine takeD 1 (some 51) (.string t) rfl rfl (by kernel_rfl) (by kernel_rfl) (by kernel_rfl) (fun _ _ _ h => h) (Or.inl ⟨by rfl, ?_⟩) hHeld ?_
      · intro w hSw
        go_simp
      simp only [Act.put, List.setIfInBounds_toArray, List.set_cons_zero, List.set_cons_succ]
      refine takeD 2 (some 52) (.int .u8 108) rfl rfl (by kernel_rfl) (by kernel_rfl) (by kernel_rfl) (fun _ _ _ h => h) (Or.inl ⟨by rfl, ?_⟩) hHeld ?_
      · intro w hSw
        go_simp
      simp only [Act.put, List.setIfInBounds_toArray, List.set_cons_zero, List.set_cons_succ]
      refine takeD 3 (some 53) (.bool false) rfl rfl (by kernel_rfl) (by kernel_rfl) (by kernel_rfl) (fun _ _ _ h => h) (Or.inl ⟨by rfl, ?_⟩) hHeld ?_
      · intro w hSw
        go_simp
      simp only [Act.put, List.setIfInBounds_toArray, List.set_cons_zero, List.set_cons_succ]
      refine takeD 4 (some 54) (.int .i64 (x (8 + m))) rfl rfl (by kernel_rfl) (by kernel_rfl) (by kernel_rfl) (fun _ _ _ h => h) (Or.inl ⟨by rfl, ?_⟩) hHeld ?_
      · intro w hSw
        go_simp
      simp only [Act.put, List.setIfInBounds_toArray, List.set_cons_zero, List.set_cons_succ]
      refine takeD 5 (some 55) (.bool false) rfl rfl (by kernel_rfl) (by kernel_rfl) (by kernel_rfl) (fun _ _ _ h => h) (Or.inl ⟨by rfl, ?_⟩) hHeld ?_
      · intro w hSw
        go_simp
      simp only [Act.put, List.setIfInBounds_toArray, List.set_cons_zero, List.set_cons_succ]
      refine takeD 6 (some 56) (.bool true) rfl rfl (by kernel_rfl) (by kernel_rfl) (by kernel_rfl) (fun _ _ _ h => h) (Or.inl ⟨by rfl, ?_⟩) hHeld ?_
      · intro w hSw
        go_simp
      simp only [Act.put, List.setIfInBounds_toArray, List.set_cons_zero, List.set_cons_succ]
      refine takeD 7 (some 57) (.bool true) rfl rfl (by kernel_rfl) (by kernel_rfl) (by kernel_rfl) (fun _ _ _ h => h) (Or.inl ⟨by rfl, ?_⟩) hHeld ?_
      · intro w hSw
        go_simp
      simp only [Act.put, List.setIfInBounds_toArray, List.set_cons_zero, List.set_cons_succ]
      refine takeD 8 (some 58) (.int .i64 (x (8 + m))) rfl rfl (by kernel_rfl) (by kernel_rfl) (by kernel_rfl) (fun _ _ _ h => h) (Or.inl ⟨by rfl, ?_⟩) hHeld ?_
      · intro w hSw
        go_simp
      simp only [Act.put, List.setIfInBounds_toArray, List.set_cons_zero, List.set_cons_succ]
      refine takeD 9 (some 59) (.int .i64 0) rfl rfl (by kernel_rfl) (by kernel_rfl) (by kernel_rfl) (fun _ _ _ h => h) (Or.inl ⟨by rfl, ?_⟩) hHeld ?_
      · intro w hSw
        go_simp
      simp only [Act.put, List.setIfInBounds_toArray, List.set_cons_zero, List.set_cons_succ]
      refine takeD 10 (some 60) (.bool true) rfl rfl (by kernel_rfl) (by kernel_rfl) (by kernel_rfl) (fun _ _ _ h => h) (Or.inl ⟨by rfl, ?_⟩) hHeld ?_
      · intro w hSw
        go_simp
      simp only [Act.put, List.setIfInBounds_toArray, List.set_cons_zero, List.set_cons_succ]
      refine takeD 11 (some 61) (.bool true) rfl rfl (by kernel_rfl) (by kernel_rfl) (by kernel_rfl) (fun _ _ _ h => h) (Or.inl ⟨by rfl, ?_⟩) hHeld ?_
      · intro w hSw
        go_simp
      simp only [Act.put, List.setIfInBounds_toArray, List.set_cons_zero, List.set_cons_succ]
      refine wpAnyH_ready (rs := [12]) (by kernel_rfl) (by simp) ?_
      refine AllReadyH.cons rfl (fun K hK => ?_) AllReadyH.nil
      rw [if_pos (by rfl)]
      refine wp_store_reg 54 _ _ rfl (w.heap.size + 1) (upd x (8 + m) 0) rfl rfl 54 (regA hHeld.2.1.choose) hHeld.2.1.choose_spec (regA_size _) Tryd.sizeReg ?_
      intro w2 hq ho
      have HQ := hide hq
      refine hK.out _ _ ⟨hHeld.1.only ho (by omega), ⟨_, hq⟩, hHeld.2.2.trans (ho.below (by omega))⟩ (fun hHeld => ?_)
      clear hK K hq ho
      refine wpAnyH_ready (rs := [13]) (by kernel_rfl) (by simp) ?_
      refine AllReadyH.cons rfl (fun K hK => ?_) AllReadyH.nil
      go_simp
      refine hK.out _ _ hHeld (fun hHeld => ?_)
      clear hK K
      refine wpAnyH_done (by kernel_rfl) ?_ _
      go_wp2
      exact bodyPost_ret (v := .tuple #[.agg (regA (upd x (8 + m) 0)), .bool true]) (results_reg2 Tryd.results64 _ _ (w.heap.size + 1) 54 (upd x (8 + m) 0) _ _ rfl rfl HQ.out Tryd.underlying54 rfl Tryd.sizeReg) rfl ⟨by rw [HR.out], hHeld.2.2⟩

end Go.Proofs.YtcfjhbcpjpgodaaDoor
