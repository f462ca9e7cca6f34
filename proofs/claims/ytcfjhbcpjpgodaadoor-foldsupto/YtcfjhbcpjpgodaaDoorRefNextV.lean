/- Proved here: what the document's Next answers at a record that turns a power. -/
import Derived.Test.YtcfjhbcpjpgodaaDoorRefForm
import Derived.Test.YtcfjhbcpjpgodaaDoorReg1
import Derived.Test.YtcfjhbcpjpgodaaDoorEq8
namespace Go.Proofs.YtcfjhbcpjpgodaaDoor
open Go.RowKit

theorem all_upd_same (x : Nat → Int) (k v : Nat) (_hk : k < 8) (h : x k = v) : ((List.range 8).all fun i => upd x k (v : Int) i == x i) = true := by
  rw [List.all_eq_true]
  intro i _
  unfold upd
  split
  · rename_i e
    subst e
    simp [h]
  · simp
theorem all_upd_other (x : Nat → Int) (k v : Nat) (hk : k < 8) (h : ¬ x k = v) : ((List.range 8).all fun i => upd x k (v : Int) i == x i) = false := by
  rw [List.all_eq_false]
  refine ⟨k, by simpa using hk, ?_⟩
  rw [upd_same]
  simp
  omega

set_option maxRecDepth 100000 in
set_option maxHeartbeats 3200000 in
theorem next_v (x : Nat → Int) (t : ByteArray) (k v : Nat) (w : World) (hx : ∀ i, i < 8 → 0 ≤ x i ∧ x i ≤ 9) (hk : k < 8) (hv : v < 10)
    (a0 : ∀ W : World, (Instr.index 9 (.string t) (.int .i64 0)).run Tryd.prog W = .ok (.int .u8 118) W) (a1 : ∀ W : World, (Instr.index 9 (.string t) (.int .i64 1)).run Tryd.prog W = .ok (.int .u8 ((k : Int) + 48)) W)
    (a2 : ∀ W : World, (Instr.index 9 (.string t) (.int .i64 2)).run Tryd.prog W = .ok (.int .u8 ((v : Int) + 48)) W) :
    Calls Tryd.prog 64 #[.agg (regA x), .string t] w fun e w' => e = .returned (.tuple #[.agg (regA (upd x k v)), .bool (decide (0 < sumTo (upd x k v) 8) && decide (x k ≠ v))]) ∧ Below w.heap.size w w' := by
  have e1 : digN ((k : Int) + 48) = k := by rw [digN_yes (by omega)]; omega
  have e2 : digN ((v : Int) + 48) = v := by rw [digN_yes (by omega)]; omega
  have HX := hide hx
  have HY : Hid (∀ i, i < 8 → 0 ≤ upd x k (v : Int) i ∧ upd x k (v : Int) i ≤ 9) := fun i hi => by
    unfold upd
    split
    · omega
    · exact hx i hi
  have z0 := regA_zero
  clear hx
  have hr0 : ∀ o, RegAt ((w.alloc (.cells (regA x) 54)).alloc o) w.heap.size 54 x := fun o => (RegAt.alloc w 54 x).below ((Below.refl _ _).alloc (Nat.le_refl _) _)
  have hst : ∀ (o1 o2 : Obj) (y z : Nat → Int), (storeCells ⟨w.heap.size + 1 + 1, 0, none⟩ (regA y).toList).run Tryd.prog (((w.alloc o1).alloc o2).alloc (.cells (regA z) 54)) = .ok () (((w.alloc o1).alloc o2).alloc (.cells (regA y) 54)) := fun o1 o2 y z => by
    have := run_storeCells_new (P := Tryd.prog) ((w.alloc o1).alloc o2) 54 z y
    simpa using this
  have hxk := regA_get x k (by omega)
  have hk8 : (k : Int) < 8 := by omega
  have hset := regA_set x k (v : Int) (by omega)
  go_enter Tryd.func64, Tryd.ntmps64
  go_wp2_with (first | (refine wpList_load_reg rfl 54 _ rfl _ rfl 54 x _ (hr0 _) Tryd.underlying54 rfl Tryd.sizeReg ?_))
  refine wp_region_held_drew (S := fun _ => True) (by kernel_rfl) trivial (fun _ => ?_)
  refine takeD 0 (some 13) (.string t) rfl rfl (by kernel_rfl) (by kernel_rfl) (by kernel_rfl) (fun _ _ _ h => h) (Or.inl ⟨by rfl, ?_⟩) trivial ?_
  · intro w hSw
    go_simp
  simp only [Act.put, List.setIfInBounds_toArray, List.set_cons_zero, List.set_cons_succ]
  refine takeD 1 (some 14) (.int .u8 ((k : Int) + 48)) rfl rfl (by kernel_rfl) (by kernel_rfl) (by kernel_rfl) (fun _ _ _ h => h) (Or.inl ⟨by rfl, ?_⟩) trivial ?_
  · intro w hSw
    go_simp
  simp only [Act.put, List.setIfInBounds_toArray, List.set_cons_zero, List.set_cons_succ]
  refine takeD 3 (some 16) (.string t) rfl rfl (by kernel_rfl) (by kernel_rfl) (by kernel_rfl) (fun _ _ _ h => h) (Or.inl ⟨by rfl, ?_⟩) trivial ?_
  · intro w hSw
    go_simp
  simp only [Act.put, List.setIfInBounds_toArray, List.set_cons_zero, List.set_cons_succ]
  refine takeD 4 (some 17) (.int .u8 ((v : Int) + 48)) rfl rfl (by kernel_rfl) (by kernel_rfl) (by kernel_rfl) (fun _ _ _ h => h) (Or.inl ⟨by rfl, ?_⟩) trivial ?_
  · intro w hSw
    go_simp
  simp only [Act.put, List.setIfInBounds_toArray, List.set_cons_zero, List.set_cons_succ]
  refine takeD 6 (some 19) (.pointer (some ⟨w.heap.size + 1 + 1, 0, none⟩)) rfl rfl (by kernel_rfl) (by kernel_rfl) (by kernel_rfl) (fun _ _ _ h => h) (Or.inl ⟨by rfl, ?_⟩) trivial ?_
  · intro w hSw
    go_simp
  simp only [Act.put, List.setIfInBounds_toArray, List.set_cons_zero, List.set_cons_succ]
  refine wpAnyH_ready (rs := [2]) (by kernel_rfl) (by simp) ?_
  refine AllReadyH.cons rfl (fun K hK => ?_) AllReadyH.nil
  go_simp
  go_wp2_with ((go_at_call 73; refine (digit_any _ _ (by omega) (by omega)).mono ?_; rintro e w1 ⟨rfl, rfl⟩))
  refine hK.out _ _ trivial (fun _ => ?_)
  clear hK K
  refine wpAnyH_ready (rs := [5]) (by kernel_rfl) (by simp) ?_
  refine AllReadyH.cons rfl (fun K hK => ?_) AllReadyH.nil
  go_simp
  go_wp2_with ((go_at_call 73; refine (digit_any _ _ (by omega) (by omega)).mono ?_; rintro e w1 ⟨rfl, rfl⟩))
  refine hK.out _ _ trivial (fun _ => ?_)
  clear hK K
  refine takeD 7 (some 20) (.pointer (some ⟨w.heap.size + 1 + 1, k, none⟩)) rfl rfl (by kernel_rfl) (by kernel_rfl) (by kernel_rfl) (fun _ _ _ h => h) (Or.inl ⟨by rfl, ?_⟩) trivial ?_
  · intro w hSw
    go_simp
  simp only [Act.put, List.setIfInBounds_toArray, List.set_cons_zero, List.set_cons_succ]
  refine wpAnyH_ready (rs := [8]) (by kernel_rfl) (by simp) ?_
  refine AllReadyH.cons rfl (fun K hK => ?_) AllReadyH.nil
  go_simp
  refine hK.out _ _ trivial (fun _ => ?_)
  clear hK K
  refine wpAnyH_done (by kernel_rfl) ?_ _
  go_wp2_with fail
  have HA : Hid (RegAt (((w.alloc (.cells (regA x) 54)).alloc (.cells (regA reg0) 54)).alloc (.cells (regA (upd x k (v : Int))) 54)).drew (w.heap.size + 1 + 1) 54 (upd x k (v : Int))) := by
    have := RegAt.alloc ((w.alloc (.cells (regA x) 54)).alloc (.cells (regA reg0) 54)) 54 (upd x k (v : Int))
    have h2 : RegAt (((w.alloc (.cells (regA x) 54)).alloc (.cells (regA reg0) 54)).alloc (.cells (regA (upd x k (v : Int))) 54)) (w.heap.size + 1 + 1) 54 (upd x k (v : Int)) := by simpa using this
    exact h2.drew
  have HC : Hid (RegAt (((w.alloc (.cells (regA x) 54)).alloc (.cells (regA reg0) 54)).alloc (.cells (regA (upd x k (v : Int))) 54)).drew w.heap.size 54 x) := ((hr0 _).below ((Below.refl _ _).alloc (Nat.le_refl _) _)).drew
  have HD : Hid (RegAt (((w.alloc (.cells (regA x) 54)).alloc (.cells (regA reg0) 54)).alloc (.cells (regA (upd x k (v : Int))) 54)).drew (w.heap.size + 1) 54 reg0) := by
    have := (RegAt.alloc (w.alloc (.cells (regA x) 54)) 54 reg0).below ((Below.refl _ _).alloc (Nat.le_refl _) (.cells (regA (upd x k (v : Int))) 54))
    have h2 : RegAt (((w.alloc (.cells (regA x) 54)).alloc (.cells (regA reg0) 54)).alloc (.cells (regA (upd x k (v : Int))) 54)) (w.heap.size + 1) 54 reg0 := by simpa using this
    exact h2.drew
  have HB : Hid (Below w.heap.size w (((w.alloc (.cells (regA x) 54)).alloc (.cells (regA reg0) 54)).alloc (.cells (regA (upd x k (v : Int))) 54)).drew) := ((((Below.refl _ w).alloc (Nat.le_refl _) _).alloc (by simp) _).alloc (by simp; omega) _).drew
  clear hr0 hst hxk hset z0 e1 e2 a0 a1 a2
  generalize (((w.alloc (.cells (regA x) 54)).alloc (.cells (regA reg0) 54)).alloc (.cells (regA (upd x k (v : Int))) 54)).drew = W4 at HA HC HD HB ⊢
  by_cases hs : 0 < sumTo (upd x k (v : Int)) 8
  · by_cases hn : x k = v
    · have hq := eq8 (upd x k (v : Int)) x
      rw [all_upd_same x k v hk hn] at hq
      have HR : Hid ((decide (0 < sumTo (upd x k (v : Int)) 8) && decide (x k ≠ v)) = false) := by unfold Hid; simp [hn]
      clear hn
      refine wp_region_held_drew (S := (fun w' => RegAt w' (w.heap.size + 1 + 1) 54 (upd x k (v : Int)) ∧ RegAt w' w.heap.size 54 x ∧ (∃ q, RegAt w' (w.heap.size + 1) 54 q) ∧ Below w.heap.size w w')) (by kernel_rfl) ⟨HA.out.drew, HC.out.drew, ⟨reg0, HD.out.drew⟩, HB.out.drew⟩ (fun hHeld => ?_)
      refine takeD 0 (some 21) (.agg (regA (upd x k (v : Int)))) rfl rfl (by kernel_rfl) (by kernel_rfl) (by kernel_rfl) (fun _ _ _ h => h) (yields_load_reg (by rfl) 54 _ rfl (w.heap.size + 1 + 1) rfl 54 (upd x k (v : Int)) _ (fun w h => h.1) Tryd.underlying54 rfl Tryd.sizeReg) hHeld ?_
      simp only [Act.put, List.setIfInBounds_toArray, List.set_cons_zero, List.set_cons_succ]
      refine takeD 1 (some 22) (.agg (regA (upd x k (v : Int)))) rfl rfl (by kernel_rfl) (by kernel_rfl) (by kernel_rfl) (fun _ _ _ h => h) (yields_load_reg (by rfl) 54 _ rfl (w.heap.size + 1 + 1) rfl 54 (upd x k (v : Int)) _ (fun w h => h.1) Tryd.underlying54 rfl Tryd.sizeReg) hHeld ?_
      simp only [Act.put, List.setIfInBounds_toArray, List.set_cons_zero, List.set_cons_succ]
      refine wpAnyH_ready (rs := [2]) (by kernel_rfl) (by simp) ?_
      refine AllReadyH.cons rfl (fun K hK => ?_) AllReadyH.nil
      go_simp
      go_wp2_with ((go_at_call 49; refine (refTotal (upd x k (v : Int)) _ HY.out).mono ?_; rintro e w1 ⟨rfl, hb1⟩))
      refine hK.out _ _ ⟨hHeld.1.below hb1, hHeld.2.1.below hb1, ⟨_, hHeld.2.2.1.choose_spec.below hb1⟩, hHeld.2.2.2.trans (hb1.mono hHeld.2.2.2.size)⟩ (fun hHeld => ?_)
      clear hK K
      refine takeD 3 (some 24) (.bool true) rfl rfl (by kernel_rfl) (by kernel_rfl) (by kernel_rfl) (fun _ _ _ h => h) (Or.inl ⟨by rfl, ?_⟩) hHeld ?_
      · intro w hSw
        go_simp
      simp only [Act.put, List.setIfInBounds_toArray, List.set_cons_zero, List.set_cons_succ]
      refine takeD 4 (some 25) (.bool true) rfl rfl (by kernel_rfl) (by kernel_rfl) (by kernel_rfl) (fun _ _ _ h => h) (Or.inl ⟨by rfl, ?_⟩) hHeld ?_
      · intro w hSw
        go_simp
      simp only [Act.put, List.setIfInBounds_toArray, List.set_cons_zero, List.set_cons_succ]
      refine takeD 5 (some 26) (.pointer (some ⟨w.heap.size + 1 + 1, 0, none⟩)) rfl rfl (by kernel_rfl) (by kernel_rfl) (by kernel_rfl) (fun _ _ _ h => h) (Or.inl ⟨by rfl, ?_⟩) hHeld ?_
      · intro w hSw
        go_simp
      simp only [Act.put, List.setIfInBounds_toArray, List.set_cons_zero, List.set_cons_succ]
      refine takeD 6 (some 27) (.agg #[.int .i64 (upd x k (v : Int) 0), .int .i64 (upd x k (v : Int) 1), .int .i64 (upd x k (v : Int) 2), .int .i64 (upd x k (v : Int) 3), .int .i64 (upd x k (v : Int) 4), .int .i64 (upd x k (v : Int) 5), .int .i64 (upd x k (v : Int) 6), .int .i64 (upd x k (v : Int) 7)]) rfl rfl (by kernel_rfl) (by kernel_rfl) (by kernel_rfl) (fun _ _ _ h => h) (yields_load_powers (by rfl) 51 _ rfl (w.heap.size + 1 + 1) rfl 54 (upd x k (v : Int)) _ (fun w h => h.1) Tryd.underlying51 rfl Tryd.sizePowers) hHeld ?_
      simp only [Act.put, List.setIfInBounds_toArray, List.set_cons_zero, List.set_cons_succ]
      refine takeD 7 (some 28) (.pointer (some ⟨w.heap.size, 0, none⟩)) rfl rfl (by kernel_rfl) (by kernel_rfl) (by kernel_rfl) (fun _ _ _ h => h) (Or.inl ⟨by rfl, ?_⟩) hHeld ?_
      · intro w hSw
        go_simp
      simp only [Act.put, List.setIfInBounds_toArray, List.set_cons_zero, List.set_cons_succ]
      refine takeD 8 (some 29) (.agg #[.int .i64 (x 0), .int .i64 (x 1), .int .i64 (x 2), .int .i64 (x 3), .int .i64 (x 4), .int .i64 (x 5), .int .i64 (x 6), .int .i64 (x 7)]) rfl rfl (by kernel_rfl) (by kernel_rfl) (by kernel_rfl) (fun _ _ _ h => h) (yields_load_powers (by rfl) 51 _ rfl w.heap.size rfl 54 x _ (fun w h => h.2.1) Tryd.underlying51 rfl Tryd.sizePowers) hHeld ?_
      simp only [Act.put, List.setIfInBounds_toArray, List.set_cons_zero, List.set_cons_succ]
      refine takeD 9 (some 30) (.bool false) rfl rfl (by kernel_rfl) (by kernel_rfl) (by kernel_rfl) (fun _ _ _ h => h) (Or.inl ⟨by rfl, ?_⟩) hHeld ?_
      · intro w hSw
        go_simp
      simp only [Act.put, List.setIfInBounds_toArray, List.set_cons_zero, List.set_cons_succ]
      refine takeD 10 (some 31) (.bool false) rfl rfl (by kernel_rfl) (by kernel_rfl) (by kernel_rfl) (fun _ _ _ h => h) (Or.inl ⟨by rfl, ?_⟩) hHeld ?_
      · intro w hSw
        go_simp
      simp only [Act.put, List.setIfInBounds_toArray, List.set_cons_zero, List.set_cons_succ]
      refine wpAnyH_ready (rs := [11]) (by kernel_rfl) (by simp) ?_
      refine AllReadyH.cons rfl (fun K hK => ?_) AllReadyH.nil
      rw [if_pos (by rfl)]
      refine wp_store_reg 54 _ _ rfl (w.heap.size + 1) (upd x k (v : Int)) rfl rfl 54 (regA hHeld.2.2.1.choose) hHeld.2.2.1.choose_spec (regA_size _) Tryd.sizeReg ?_
      intro w2 hq ho
      have HQ := hide hq
      refine hK.out _ _ ⟨hHeld.1.only ho (by omega), hHeld.2.1.only ho (by omega), ⟨_, hq⟩, hHeld.2.2.2.trans (ho.below (by omega))⟩ (fun hHeld => ?_)
      clear hK K hq ho
      refine wpAnyH_ready (rs := [12]) (by kernel_rfl) (by simp) ?_
      refine AllReadyH.cons rfl (fun K hK => ?_) AllReadyH.nil
      go_simp
      refine hK.out _ _ hHeld (fun hHeld => ?_)
      clear hK K
      refine wpAnyH_done (by kernel_rfl) ?_ _
      go_wp2
      exact bodyPost_ret (v := .tuple #[.agg (regA (upd x k (v : Int))), .bool false]) (results_reg2 Tryd.results64 _ _ (w.heap.size + 1) 54 (upd x k (v : Int)) _ _ rfl rfl HQ.out Tryd.underlying54 rfl Tryd.sizeReg) rfl ⟨by rw [HR.out], hHeld.2.2.2⟩
    · have hq := eq8 (upd x k (v : Int)) x
      rw [all_upd_other x k v hk hn] at hq
      have HR : Hid ((decide (0 < sumTo (upd x k (v : Int)) 8) && decide (x k ≠ v)) = true) := by unfold Hid; simp [hn, hs]
      clear hn
      refine wp_region_held_drew (S := (fun w' => RegAt w' (w.heap.size + 1 + 1) 54 (upd x k (v : Int)) ∧ RegAt w' w.heap.size 54 x ∧ (∃ q, RegAt w' (w.heap.size + 1) 54 q) ∧ Below w.heap.size w w')) (by kernel_rfl) ⟨HA.out.drew, HC.out.drew, ⟨reg0, HD.out.drew⟩, HB.out.drew⟩ (fun hHeld => ?_)
      refine takeD 0 (some 21) (.agg (regA (upd x k (v : Int)))) rfl rfl (by kernel_rfl) (by kernel_rfl) (by kernel_rfl) (fun _ _ _ h => h) (yields_load_reg (by rfl) 54 _ rfl (w.heap.size + 1 + 1) rfl 54 (upd x k (v : Int)) _ (fun w h => h.1) Tryd.underlying54 rfl Tryd.sizeReg) hHeld ?_
      simp only [Act.put, List.setIfInBounds_toArray, List.set_cons_zero, List.set_cons_succ]
      refine takeD 1 (some 22) (.agg (regA (upd x k (v : Int)))) rfl rfl (by kernel_rfl) (by kernel_rfl) (by kernel_rfl) (fun _ _ _ h => h) (yields_load_reg (by rfl) 54 _ rfl (w.heap.size + 1 + 1) rfl 54 (upd x k (v : Int)) _ (fun w h => h.1) Tryd.underlying54 rfl Tryd.sizeReg) hHeld ?_
      simp only [Act.put, List.setIfInBounds_toArray, List.set_cons_zero, List.set_cons_succ]
      refine wpAnyH_ready (rs := [2]) (by kernel_rfl) (by simp) ?_
      refine AllReadyH.cons rfl (fun K hK => ?_) AllReadyH.nil
      go_simp
      go_wp2_with ((go_at_call 49; refine (refTotal (upd x k (v : Int)) _ HY.out).mono ?_; rintro e w1 ⟨rfl, hb1⟩))
      refine hK.out _ _ ⟨hHeld.1.below hb1, hHeld.2.1.below hb1, ⟨_, hHeld.2.2.1.choose_spec.below hb1⟩, hHeld.2.2.2.trans (hb1.mono hHeld.2.2.2.size)⟩ (fun hHeld => ?_)
      clear hK K
      refine takeD 3 (some 24) (.bool true) rfl rfl (by kernel_rfl) (by kernel_rfl) (by kernel_rfl) (fun _ _ _ h => h) (Or.inl ⟨by rfl, ?_⟩) hHeld ?_
      · intro w hSw
        go_simp
      simp only [Act.put, List.setIfInBounds_toArray, List.set_cons_zero, List.set_cons_succ]
      refine takeD 4 (some 25) (.bool true) rfl rfl (by kernel_rfl) (by kernel_rfl) (by kernel_rfl) (fun _ _ _ h => h) (Or.inl ⟨by rfl, ?_⟩) hHeld ?_
      · intro w hSw
        go_simp
      simp only [Act.put, List.setIfInBounds_toArray, List.set_cons_zero, List.set_cons_succ]
      refine takeD 5 (some 26) (.pointer (some ⟨w.heap.size + 1 + 1, 0, none⟩)) rfl rfl (by kernel_rfl) (by kernel_rfl) (by kernel_rfl) (fun _ _ _ h => h) (Or.inl ⟨by rfl, ?_⟩) hHeld ?_
      · intro w hSw
        go_simp
      simp only [Act.put, List.setIfInBounds_toArray, List.set_cons_zero, List.set_cons_succ]
      refine takeD 6 (some 27) (.agg #[.int .i64 (upd x k (v : Int) 0), .int .i64 (upd x k (v : Int) 1), .int .i64 (upd x k (v : Int) 2), .int .i64 (upd x k (v : Int) 3), .int .i64 (upd x k (v : Int) 4), .int .i64 (upd x k (v : Int) 5), .int .i64 (upd x k (v : Int) 6), .int .i64 (upd x k (v : Int) 7)]) rfl rfl (by kernel_rfl) (by kernel_rfl) (by kernel_rfl) (fun _ _ _ h => h) (yields_load_powers (by rfl) 51 _ rfl (w.heap.size + 1 + 1) rfl 54 (upd x k (v : Int)) _ (fun w h => h.1) Tryd.underlying51 rfl Tryd.sizePowers) hHeld ?_
      simp only [Act.put, List.setIfInBounds_toArray, List.set_cons_zero, List.set_cons_succ]
      refine takeD 7 (some 28) (.pointer (some ⟨w.heap.size, 0, none⟩)) rfl rfl (by kernel_rfl) (by kernel_rfl) (by kernel_rfl) (fun _ _ _ h => h) (Or.inl ⟨by rfl, ?_⟩) hHeld ?_
      · intro w hSw
        go_simp
      simp only [Act.put, List.setIfInBounds_toArray, List.set_cons_zero, List.set_cons_succ]
      refine takeD 8 (some 29) (.agg #[.int .i64 (x 0), .int .i64 (x 1), .int .i64 (x 2), .int .i64 (x 3), .int .i64 (x 4), .int .i64 (x 5), .int .i64 (x 6), .int .i64 (x 7)]) rfl rfl (by kernel_rfl) (by kernel_rfl) (by kernel_rfl) (fun _ _ _ h => h) (yields_load_powers (by rfl) 51 _ rfl w.heap.size rfl 54 x _ (fun w h => h.2.1) Tryd.underlying51 rfl Tryd.sizePowers) hHeld ?_
      simp only [Act.put, List.setIfInBounds_toArray, List.set_cons_zero, List.set_cons_succ]
      refine takeD 9 (some 30) (.bool true) rfl rfl (by kernel_rfl) (by kernel_rfl) (by kernel_rfl) (fun _ _ _ h => h) (Or.inl ⟨by rfl, ?_⟩) hHeld ?_
      · intro w hSw
        go_simp
      simp only [Act.put, List.setIfInBounds_toArray, List.set_cons_zero, List.set_cons_succ]
      refine takeD 10 (some 31) (.bool true) rfl rfl (by kernel_rfl) (by kernel_rfl) (by kernel_rfl) (fun _ _ _ h => h) (Or.inl ⟨by rfl, ?_⟩) hHeld ?_
      · intro w hSw
        go_simp
      simp only [Act.put, List.setIfInBounds_toArray, List.set_cons_zero, List.set_cons_succ]
      refine wpAnyH_ready (rs := [11]) (by kernel_rfl) (by simp) ?_
      refine AllReadyH.cons rfl (fun K hK => ?_) AllReadyH.nil
      rw [if_pos (by rfl)]
      refine wp_store_reg 54 _ _ rfl (w.heap.size + 1) (upd x k (v : Int)) rfl rfl 54 (regA hHeld.2.2.1.choose) hHeld.2.2.1.choose_spec (regA_size _) Tryd.sizeReg ?_
      intro w2 hq ho
      have HQ := hide hq
      refine hK.out _ _ ⟨hHeld.1.only ho (by omega), hHeld.2.1.only ho (by omega), ⟨_, hq⟩, hHeld.2.2.2.trans (ho.below (by omega))⟩ (fun hHeld => ?_)
      clear hK K hq ho
      refine wpAnyH_ready (rs := [12]) (by kernel_rfl) (by simp) ?_
      refine AllReadyH.cons rfl (fun K hK => ?_) AllReadyH.nil
      go_simp
      refine hK.out _ _ hHeld (fun hHeld => ?_)
      clear hK K
      refine wpAnyH_done (by kernel_rfl) ?_ _
      go_wp2
      exact bodyPost_ret (v := .tuple #[.agg (regA (upd x k (v : Int))), .bool true]) (results_reg2 Tryd.results64 _ _ (w.heap.size + 1) 54 (upd x k (v : Int)) _ _ rfl rfl HQ.out Tryd.underlying54 rfl Tryd.sizeReg) rfl ⟨by rw [HR.out], hHeld.2.2.2⟩
  · have HR : Hid ((decide (0 < sumTo (upd x k (v : Int)) 8) && decide (x k ≠ v)) = false) := by unfold Hid; simp [hs]
    refine wp_region_held_drew (S := (fun w' => RegAt w' (w.heap.size + 1 + 1) 54 (upd x k (v : Int)) ∧ RegAt w' w.heap.size 54 x ∧ (∃ q, RegAt w' (w.heap.size + 1) 54 q) ∧ Below w.heap.size w w')) (by kernel_rfl) ⟨HA.out.drew, HC.out.drew, ⟨reg0, HD.out.drew⟩, HB.out.drew⟩ (fun hHeld => ?_)
    refine takeD 0 (some 21) (.agg (regA (upd x k (v : Int)))) rfl rfl (by kernel_rfl) (by kernel_rfl) (by kernel_rfl) (fun _ _ _ h => h) (yields_load_reg (by rfl) 54 _ rfl (w.heap.size + 1 + 1) rfl 54 (upd x k (v : Int)) _ (fun w h => h.1) Tryd.underlying54 rfl Tryd.sizeReg) hHeld ?_
    simp only [Act.put, List.setIfInBounds_toArray, List.set_cons_zero, List.set_cons_succ]
    refine takeD 1 (some 22) (.agg (regA (upd x k (v : Int)))) rfl rfl (by kernel_rfl) (by kernel_rfl) (by kernel_rfl) (fun _ _ _ h => h) (yields_load_reg (by rfl) 54 _ rfl (w.heap.size + 1 + 1) rfl 54 (upd x k (v : Int)) _ (fun w h => h.1) Tryd.underlying54 rfl Tryd.sizeReg) hHeld ?_
    simp only [Act.put, List.setIfInBounds_toArray, List.set_cons_zero, List.set_cons_succ]
    refine wpAnyH_ready (rs := [2]) (by kernel_rfl) (by simp) ?_
    refine AllReadyH.cons rfl (fun K hK => ?_) AllReadyH.nil
    go_simp
    go_wp2_with ((go_at_call 49; refine (refTotal (upd x k (v : Int)) _ HY.out).mono ?_; rintro e w1 ⟨rfl, hb1⟩))
    refine hK.out _ _ ⟨hHeld.1.below hb1, hHeld.2.1.below hb1, ⟨_, hHeld.2.2.1.choose_spec.below hb1⟩, hHeld.2.2.2.trans (hb1.mono hHeld.2.2.2.size)⟩ (fun hHeld => ?_)
    clear hK K
    refine takeD 3 (some 24) (.bool false) rfl rfl (by kernel_rfl) (by kernel_rfl) (by kernel_rfl) (fun _ _ _ h => h) (Or.inl ⟨by rfl, ?_⟩) hHeld ?_
    · intro w hSw
      go_simp
    simp only [Act.put, List.setIfInBounds_toArray, List.set_cons_zero, List.set_cons_succ]
    refine takeD 4 (some 25) (.bool false) rfl rfl (by kernel_rfl) (by kernel_rfl) (by kernel_rfl) (fun _ _ _ h => h) (Or.inl ⟨by rfl, ?_⟩) hHeld ?_
    · intro w hSw
      go_simp
    simp only [Act.put, List.setIfInBounds_toArray, List.set_cons_zero, List.set_cons_succ]
    refine takeD 5 (some 26) undef rfl rfl (by kernel_rfl) (by kernel_rfl) (by kernel_rfl) (fun _ _ _ h => h) (Or.inr ⟨by rfl, rfl⟩) hHeld ?_
    simp only [Act.put, List.setIfInBounds_toArray, List.set_cons_zero, List.set_cons_succ]
    refine takeD 6 (some 27) undef rfl rfl (by kernel_rfl) (by kernel_rfl) (by kernel_rfl) (fun _ _ _ h => h) (Or.inr ⟨by rfl, rfl⟩) hHeld ?_
    simp only [Act.put, List.setIfInBounds_toArray, List.set_cons_zero, List.set_cons_succ]
    refine takeD 7 (some 28) undef rfl rfl (by kernel_rfl) (by kernel_rfl) (by kernel_rfl) (fun _ _ _ h => h) (Or.inr ⟨by rfl, rfl⟩) hHeld ?_
    simp only [Act.put, List.setIfInBounds_toArray, List.set_cons_zero, List.set_cons_succ]
    refine takeD 8 (some 29) undef rfl rfl (by kernel_rfl) (by kernel_rfl) (by kernel_rfl) (fun _ _ _ h => h) (Or.inr ⟨by rfl, rfl⟩) hHeld ?_
    simp only [Act.put, List.setIfInBounds_toArray, List.set_cons_zero, List.set_cons_succ]
    refine takeD 9 (some 30) undef rfl rfl (by kernel_rfl) (by kernel_rfl) (by kernel_rfl) (fun _ _ _ h => h) (Or.inr ⟨by rfl, rfl⟩) hHeld ?_
    simp only [Act.put, List.setIfInBounds_toArray, List.set_cons_zero, List.set_cons_succ]
    refine takeD 10 (some 31) (.bool false) rfl rfl (by kernel_rfl) (by kernel_rfl) (by kernel_rfl) (fun _ _ _ h => h) (Or.inl ⟨by rfl, ?_⟩) hHeld ?_
    · intro w hSw
      go_simp
    simp only [Act.put, List.setIfInBounds_toArray, List.set_cons_zero, List.set_cons_succ]
    refine wpAnyH_ready (rs := [11]) (by kernel_rfl) (by simp) ?_
    refine AllReadyH.cons rfl (fun K hK => ?_) AllReadyH.nil
    rw [if_pos (by rfl)]
    refine wp_store_reg 54 _ _ rfl (w.heap.size + 1) (upd x k (v : Int)) rfl rfl 54 (regA hHeld.2.2.1.choose) hHeld.2.2.1.choose_spec (regA_size _) Tryd.sizeReg ?_
    intro w2 hq ho
    have HQ := hide hq
    refine hK.out _ _ ⟨hHeld.1.only ho (by omega), hHeld.2.1.only ho (by omega), ⟨_, hq⟩, hHeld.2.2.2.trans (ho.below (by omega))⟩ (fun hHeld => ?_)
    clear hK K hq ho
    refine wpAnyH_ready (rs := [12]) (by kernel_rfl) (by simp) ?_
    refine AllReadyH.cons rfl (fun K hK => ?_) AllReadyH.nil
    go_simp
    refine hK.out _ _ hHeld (fun hHeld => ?_)
    clear hK K
    refine wpAnyH_done (by kernel_rfl) ?_ _
    go_wp2
    exact bodyPost_ret (v := .tuple #[.agg (regA (upd x k (v : Int))), .bool false]) (results_reg2 Tryd.results64 _ _ (w.heap.size + 1) 54 (upd x k (v : Int)) _ _ rfl rfl HQ.out Tryd.underlying54 rfl Tryd.sizeReg) rfl ⟨by rw [HR.out], hHeld.2.2.2⟩

end Go.Proofs.YtcfjhbcpjpgodaaDoor
