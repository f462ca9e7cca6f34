/- Proved here: two rows of eight numbers compared: equal just if each is. · Proved here: what the document's Next answers at a record that turns a power. · Proved here: what the document's Next answers at a record of one who joins. · Proved here: what the document's Next answers at a record of one who leaves. · Proved here: what the document's Next answers at a record of one who has another role. · Proved here: what the document's Next answers at every text that has the form of a record. -/
import Derived.Test.YtcfjhbcpjpgodaaDoorJ19
import Derived.ChangeKeysEq
import Derived.Test.YtcfjhbcpjpgodaaDoorJ18
namespace Go.Proofs.YtcfjhbcpjpgodaaDoor
open Go.RowKit

theorem Tryd.infoIntSome : (Tryd.prog.info? 3).isSome = true := by kernel_rfl
theorem Tryd.cellsInt1 : Tryd.prog.cellsOf 3 = 1 := by kernel_rfl
theorem Tryd.partInt (xs : Array Value) (off : Nat) (v : Value) (h : xs[off]? = some v) (w : World) : (part 3 xs off).run Tryd.prog w = .ok v w := by
  have ha : (isAgg 3).run Tryd.prog w = .ok false w := by kernel_rfl
  unfold part
  simp only [Sem.run_bind, ha, Result.andThen_ok]
  simp [h]

theorem eqItems_ints (d : Nat) (xs ys : Array Value) (x y : Nat → Int) (w : World) : ∀ is : List Nat, (∀ i, i ∈ is → xs[i]? = some (.int .i64 (x i)) ∧ ys[i]? = some (.int .i64 (y i))) →
    (Op.eqItems (d + 1) 3 1 xs ys is).run Tryd.prog w = .ok (is.all fun i => x i == y i) w
  | [], _ => by simp [Op.eqItems]
  | i :: is, h => by
    have h0 := h i (by simp)
    have ih := eqItems_ints d xs ys x y w is (fun j hj => h j (by simp [hj]))
    have p1 := Tryd.partInt xs i _ h0.1 w
    have p2 := Tryd.partInt ys i _ h0.2 w
    have p3 := run_equalIn_int (P := Tryd.prog) w d 3 .i64 .i64 (x i) (y i) Tryd.underlying3
    simp only [Op.eqItems, Nat.mul_one, Sem.run_bind, p1, p2, p3, Result.andThen_ok]
    cases hxy : (x i == y i)
    · simp [hxy]
    · simp [hxy, ih]

/-- Eight numbers in a row. -/
theorem eq8 (x y : Nat → Int) (w : World) : (Op.equalIn 10000 51 (.agg #[.int .i64 (x 0), .int .i64 (x 1), .int .i64 (x 2), .int .i64 (x 3), .int .i64 (x 4), .int .i64 (x 5), .int .i64 (x 6), .int .i64 (x 7)]) (.agg #[.int .i64 (y 0), .int .i64 (y 1), .int .i64 (y 2), .int .i64 (y 3), .int .i64 (y 4), .int .i64 (y 5), .int .i64 (y 6), .int .i64 (y 7)])).run Tryd.prog w = .ok ((List.range 8).all fun i => x i == y i) w := by
  obtain ⟨i, hi⟩ := Option.isSome_iff_exists.1 Tryd.infoIntSome
  rw [run_equalIn_array w 9999 _ _ Tryd.underlying51 hi, Tryd.cellsInt1]
  refine eqItems_ints 9998 _ _ x y w (List.range 8) (fun j hj => ?_)
  have hj' : j < 8 := by simpa using hj
  match j, hj' with
  | 0, _ | 1, _ | 2, _ | 3, _ | 4, _ | 5, _ | 6, _ | 7, _ => simp

end Go.Proofs.YtcfjhbcpjpgodaaDoor
namespace Go.Proofs.YtcfjhbcpjpgodaaDoor
open Go.RowKit

theorem all_upd_same (x : Nat → Int) (k v : Nat) (_hk : k < 8) (h : x k = v) : ((List.range 8).all fun i => upd x k (v : Int) i == x i) = true := by
  rw [List.all_eq_true]
  intro i _
  unfold upd
  split
  · rename_i e
    subst e
    simp [h]
  · simp
theorem all_upd_other (x : Nat → Int) (k v : Nat) (hk : k < 8) (h : ¬ x k = v) : ((List.range 8).all fun i => upd x k (v : Int) i == x i) = false := by
  rw [List.all_eq_false]
  refine ⟨k, by simpa using hk, ?_⟩
  rw [upd_same]
  simp
  omega

set_option maxRecDepth 100000 in
set_option maxHeartbeats 3200000 in
theorem next_v (x : Nat → Int) (t : ByteArray) (k v : Nat) (w : World) (hx : ∀ i, i < 8 → 0 ≤ x i ∧ x i ≤ 9) (hk : k < 8) (hv : v < 10)
    (a0 : ∀ W : World, (Instr.index 9 (.string t) (.int .i64 0)).run Tryd.prog W = .ok (.int .u8 118) W) (a1 : ∀ W : World, (Instr.index 9 (.string t) (.int .i64 1)).run Tryd.prog W = .ok (.int .u8 ((k : Int) + 48)) W)
    (a2 : ∀ W : World, (Instr.index 9 (.string t) (.int .i64 2)).run Tryd.prog W = .ok (.int .u8 ((v : Int) + 48)) W) :
    Calls Tryd.prog 64 #[.agg (regA x), .string t] w fun e w' => e = .returned (.tuple #[.agg (regA (upd x k v)), .bool (decide (0 < sumTo (upd x k v) 8) && decide (x k ≠ v))]) ∧ Below w.heap.size w w' := by
  have e1 : digN ((k : Int) + 48) = k := by rw [digN_yes (by omega)]; omega
  have e2 : digN ((v : Int) + 48) = v := by rw [digN_yes (by omega)]; omega
  have HX := hide hx
  have HY : Hid (∀ i, i < 8 → 0 ≤ upd x k (v : Int) i ∧ upd x k (v : Int) i ≤ 9) := fun i hi => by
    unfold upd
    split
    · omega
    · exact hx i hi
  have z0 := regA_zero
  clear hx
  have hr0 : ∀ o, RegAt ((w.alloc (.cells (regA x) 54)).alloc o) w.heap.size 54 x := fun o => (RegAt.alloc w 54 x).below ((Below.refl _ _).alloc (Nat.le_refl _) _)
  have hst : ∀ (o1 o2 : Obj) (y z : Nat → Int), (storeCells ⟨w.heap.size + 1 + 1, 0, none⟩ (regA y).toList).run Tryd.prog (((w.alloc o1).alloc o2).alloc (.cells (regA z) 54)) = .ok () (((w.alloc o1).alloc o2).alloc (.cells (regA y) 54)) := fun o1 o2 y z => by
    have := run_storeCells_new (P := Tryd.prog) ((w.alloc o1).alloc o2) 54 z y
    simpa using this
  have hxk := regA_get x k (by omega)
  have hk8 : (k : Int) < 8 := by omega
  have hset := regA_set x k (v : Int) (by omega)
  go_enter Tryd.func64, Tryd.ntmps64
  go_wp2_with (first | (refine wpList_load_reg rfl 54 _ rfl _ rfl 54 x _ (hr0 _) Tryd.underlying54 rfl Tryd.sizeReg ?_))
  refine wp_region_held_drew (S := fun _ => True) (by kernel_rfl) trivial (fun _ => ?_)
  refine takeD 0 (some 13) (.string t) rfl rfl (by kernel_rfl) (by kernel_rfl) (by kernel_rfl) (fun _ _ _ h => h) (Or.inl ⟨by rfl, ?_⟩) trivial ?_
  · intro w hSw
    go_simp
  simp only [Act.put, List.setIfInBounds_toArray, List.set_cons_zero, List.set_cons_succ]
  refine takeD 1 (some 14) (.int .u8 ((k : Int) + 48)) rfl rfl (by kernel_rfl) (by kernel_rfl) (by kernel_rfl) (fun _ _ _ h => h) (Or.inl ⟨by rfl, ?_⟩) trivial ?_
  · intro w hSw
    go_simp
  simp only [Act.put, List.setIfInBounds_toArray, List.set_cons_zero, List.set_cons_succ]
  refine takeD 3 (some 16) (.string t) rfl rfl (by kernel_rfl) (by kernel_rfl) (by kernel_rfl) (fun _ _ _ h => h) (Or.inl ⟨by rfl, ?_⟩) trivial ?_
  · intro w hSw
    go_simp
  simp only [Act.put, List.setIfInBounds_toArray, List.set_cons_zero, List.set_cons_succ]
  refine takeD 4 (some 17) (.int .u8 ((v : Int) + 48)) rfl rfl (by kernel_rfl) (by kernel_rfl) (by kernel_rfl) (fun _ _ _ h => h) (Or.inl ⟨by rfl, ?_⟩) trivial ?_
  · intro w hSw
    go_simp
  simp only [Act.put, List.setIfInBounds_toArray, List.set_cons_zero, List.set_cons_succ]
  refine takeD 6 (some 19) (.pointer (some ⟨w.heap.size + 1 + 1, 0, none⟩)) rfl rfl (by kernel_rfl) (by kernel_rfl) (by kernel_rfl) (fun _ _ _ h => h) (Or.inl ⟨by rfl, ?_⟩) trivial ?_
  · intro w hSw
    go_simp
  simp only [Act.put, List.setIfInBounds_toArray, List.set_cons_zero, List.set_cons_succ]
  refine wpAnyH_ready (rs := [2]) (by kernel_rfl) (by simp) ?_
  refine AllReadyH.cons rfl (fun K hK => ?_) AllReadyH.nil
  go_simp
  go_wp2_with ((go_at_call 73; refine (digit_any _ _ (by omega) (by omega)).mono ?_; rintro e w1 ⟨rfl, rfl⟩))
  refine hK.out _ _ trivial (fun _ => ?_)
  clear hK K
  refine wpAnyH_ready (rs := [5]) (by kernel_rfl) (by simp) ?_
  refine AllReadyH.cons rfl (fun K hK => ?_) AllReadyH.nil
  go_simp
  go_wp2_with ((go_at_call 73; refine (digit_any _ _ (by omega) (by omega)).mono ?_; rintro e w1 ⟨rfl, rfl⟩))
  refine hK.out _ _ trivial (fun _ => ?_)
  clear hK K
  refine takeD 7 (some 20) (.pointer (some ⟨w.heap.size + 1 + 1, k, none⟩)) rfl rfl (by kernel_rfl) (by kernel_rfl) (by kernel_rfl) (fun _ _ _ h => h) (Or.inl ⟨by rfl, ?_⟩) trivial ?_
  · intro w hSw
    go_simp
  simp only [Act.put, List.setIfInBounds_toArray, List.set_cons_zero, List.set_cons_succ]
  refine wpAnyH_ready (rs := [8]) (by kernel_rfl) (by simp) ?_
  refine AllReadyH.cons rfl (fun K hK => ?_) AllReadyH.nil
  go_simp
  refine hK.out _ _ trivial (fun _ => ?_)
  clear hK K
  refine wpAnyH_done (by kernel_rfl) ?_ _
  go_wp2_with fail
  have HA : Hid (RegAt (((w.alloc (.cells (regA x) 54)).alloc (.cells (regA reg0) 54)).alloc (.cells (regA (upd x k (v : Int))) 54)).drew (w.heap.size + 1 + 1) 54 (upd x k (v : Int))) := by
    have := RegAt.alloc ((w.alloc (.cells (regA x) 54)).alloc (.cells (regA reg0) 54)) 54 (upd x k (v : Int))
    have h2 : RegAt (((w.alloc (.cells (regA x) 54)).alloc (.cells (regA reg0) 54)).alloc (.cells (regA (upd x k (v : Int))) 54)) (w.heap.size + 1 + 1) 54 (upd x k (v : Int)) := by simpa using this
    exact h2.drew
  have HC : Hid (RegAt (((w.alloc (.cells (regA x) 54)).alloc (.cells (regA reg0) 54)).alloc (.cells (regA (upd x k (v : Int))) 54)).drew w.heap.size 54 x) := ((hr0 _).below ((Below.refl _ _).alloc (Nat.le_refl _) _)).drew
  have HD : Hid (RegAt (((w.alloc (.cells (regA x) 54)).alloc (.cells (regA reg0) 54)).alloc (.cells (regA (upd x k (v : Int))) 54)).drew (w.heap.size + 1) 54 reg0) := by
    have := (RegAt.alloc (w.alloc (.cells (regA x) 54)) 54 reg0).below ((Below.refl _ _).alloc (Nat.le_refl _) (.cells (regA (upd x k (v : Int))) 54))
    have h2 : RegAt (((w.alloc (.cells (regA x) 54)).alloc (.cells (regA reg0) 54)).alloc (.cells (regA (upd x k (v : Int))) 54)) (w.heap.size + 1) 54 reg0 := by simpa using this
    exact h2.drew
  have HB : Hid (Below w.heap.size w (((w.alloc (.cells (regA x) 54)).alloc (.cells (regA reg0) 54)).alloc (.cells (regA (upd x k (v : Int))) 54)).drew) := ((((Below.refl _ w).alloc (Nat.le_refl _) _).alloc (by simp) _).alloc (by simp; omega) _).drew
  clear hr0 hst hxk hset z0 e1 e2 a0 a1 a2
  generalize (((w.alloc (.cells (regA x) 54)).alloc (.cells (regA reg0) 54)).alloc (.cells (regA (upd x k (v : Int))) 54)).drew = W4 at HA HC HD HB ⊢
  by_cases hs : 0 < sumTo (upd x k (v : Int)) 8
  · by_cases hn : x k = v
    · have hq := eq8 (upd x k (v : Int)) x
      rw [all_upd_same x k v hk hn] at hq
      have HR : Hid ((decide (0 < sumTo (upd x k (v : Int)) 8) && decide (x k ≠ v)) = false) := by unfold Hid; simp [hn]
      clear hn
      refine wp_region_held_drew (S := (fun w' => RegAt w' (w.heap.size + 1 + 1) 54 (upd x k (v : Int)) ∧ RegAt w' w.heap.size 54 x ∧ (∃ q, RegAt w' (w.heap.size + 1) 54 q) ∧ Below w.heap.size w w')) (by kernel_rfl) ⟨HA.out.drew, HC.out.drew, ⟨reg0, HD.out.drew⟩, HB.out.drew⟩ (fun hHeld => ?_)
      refine takeD 0 (some 21) (.agg (regA (upd x k (v : Int)))) rfl rfl (by kernel_rfl) (by kernel_rfl) (by kernel_rfl) (fun _ _ _ h => h) (yields_load_reg (by rfl) 54 _ rfl (w.heap.size + 1 + 1) rfl 54 (upd x k (v : Int)) _ (fun w h => h.1) Tryd.underlying54 rfl Tryd.sizeReg) hHeld ?_
      simp only [Act.put, List.setIfInBounds_toArray, List.set_cons_zero, List.set_cons_succ]
      refine takeD 1 (some 22) (.agg (regA (upd x k (v : Int)))) rfl rfl (by kernel_rfl) (by kernel_rfl) (by kernel_rfl) (fun _ _ _ h => h) (yields_load_reg (by rfl) 54 _ rfl (w.heap.size + 1 + 1) rfl 54 (upd x k (v : Int)) _ (fun w h => h.1) Tryd.underlying54 rfl Tryd.sizeReg) hHeld ?_
      simp only [Act.put, List.setIfInBounds_toArray, List.set_cons_zero, List.set_cons_succ]
      refine wpAnyH_ready (rs := [2]) (by kernel_rfl) (by simp) ?_
      refine AllReadyH.cons rfl (fun K hK => ?_) AllReadyH.nil
      go_simp
      go_wp2_with ((go_at_call 49; refine (refTotal (upd x k (v : Int)) _ HY.out).mono ?_; rintro e w1 ⟨rfl, hb1⟩))
      refine hK.out _ _ ⟨hHeld.1.below hb1, hHeld.2.1.below hb1, ⟨_, hHeld.2.2.1.choose_spec.below hb1⟩, hHeld.2.2.2.trans (hb1.mono hHeld.2.2.2.size)⟩ (fun hHeld => ?_)
      clear hK K
      refine takeD 3 (some 24) (.bool true) rfl rfl (by kernel_rfl) (by kernel_rfl) (by kernel_rfl) (fun _ _ _ h => h) (Or.inl ⟨by rfl, ?_⟩) hHeld ?_
      · intro w hSw
        go_simp
      simp only [Act.put, List.setIfInBounds_toArray, List.set_cons_zero, List.set_cons_succ]
      refine takeD 4 (some 25) (.bool true) rfl rfl (by kernel_rfl) (by kernel_rfl) (by kernel_rfl) (fun _ _ _ h => h) (Or.inl ⟨by rfl, ?_⟩) hHeld ?_
      · intro w hSw
        go_simp
      simp only [Act.put, List.setIfInBounds_toArray, List.set_cons_zero, List.set_cons_succ]
      refine takeD 5 (some 26) (.pointer (some ⟨w.heap.size + 1 + 1, 0, none⟩)) rfl rfl (by kernel_rfl) (by kernel_rfl) (by kernel_rfl) (fun _ _ _ h => h) (Or.inl ⟨by rfl, ?_⟩) hHeld ?_
      · intro w hSw
        go_simp
      simp only [Act.put, List.setIfInBounds_toArray, List.set_cons_zero, List.set_cons_succ]
      refine takeD 6 (some 27) (.agg #[.int .i64 (upd x k (v : Int) 0), .int .i64 (upd x k (v : Int) 1), .int .i64 (upd x k (v : Int) 2), .int .i64 (upd x k (v : Int) 3), .int .i64 (upd x k (v : Int) 4), .int .i64 (upd x k (v : Int) 5), .int .i64 (upd x k (v : Int) 6), .int .i64 (upd x k (v : Int) 7)]) rfl rfl (by kernel_rfl) (by kernel_rfl) (by kernel_rfl) (fun _ _ _ h => h) (yields_load_powers (by rfl) 51 _ rfl (w.heap.size + 1 + 1) rfl 54 (upd x k (v : Int)) _ (fun w h => h.1) Tryd.underlying51 rfl Tryd.sizePowers) hHeld ?_
      simp only [Act.put, List.setIfInBounds_toArray, List.set_cons_zero, List.set_cons_succ]
      refine takeD 7 (some 28) (.pointer (some ⟨w.heap.size, 0, none⟩)) rfl rfl (by kernel_rfl) (by kernel_rfl) (by kernel_rfl) (fun _ _ _ h => h) (Or.inl ⟨by rfl, ?_⟩) hHeld ?_
      · intro w hSw
        go_simp
      simp only [Act.put, List.setIfInBounds_toArray, List.set_cons_zero, List.set_cons_succ]
      refine takeD 8 (some 29) (.agg #[.int .i64 (x 0), .int .i64 (x 1), .int .i64 (x 2), .int .i64 (x 3), .int .i64 (x 4), .int .i64 (x 5), .int .i64 (x 6), .int .i64 (x 7)]) rfl rfl (by kernel_rfl) (by kernel_rfl) (by kernel_rfl) (fun _ _ _ h => h) (yields_load_powers (by rfl) 51 _ rfl w.heap.size rfl 54 x _ (fun w h => h.2.1) Tryd.underlying51 rfl Tryd.sizePowers) hHeld ?_
      simp only [Act.put, List.setIfInBounds_toArray, List.set_cons_zero, List.set_cons_succ]
      refine takeD 9 (some 30) (.bool false) rfl rfl (by kernel_rfl) (by kernel_rfl) (by kernel_rfl) (fun _ _ _ h => h) (Or.inl ⟨by rfl, ?_⟩) hHeld ?_
      · intro w hSw
        go_simp
      simp only [Act.put, List.setIfInBounds_toArray, List.set_cons_zero, List.set_cons_succ]
      refine takeD 10 (some 31) (.bool false) rfl rfl (by kernel_rfl) (by kernel_rfl) (by kernel_rfl) (fun _ _ _ h => h) (Or.inl ⟨by rfl, ?_⟩) hHeld ?_
      · intro w hSw
        go_simp
      simp only [Act.put, List.setIfInBounds_toArray, List.set_cons_zero, List.set_cons_succ]
      refine wpAnyH_ready (rs := [11]) (by kernel_rfl) (by simp) ?_
      refine AllReadyH.cons rfl (fun K hK => ?_) AllReadyH.nil
      rw [if_pos (by rfl)]
      refine wp_store_reg 54 _ _ rfl (w.heap.size + 1) (upd x k (v : Int)) rfl rfl 54 (regA hHeld.2.2.1.choose) hHeld.2.2.1.choose_spec (regA_size _) Tryd.sizeReg ?_
      intro w2 hq ho
      have HQ := hide hq
      refine hK.out _ _ ⟨hHeld.1.only ho (by omega), hHeld.2.1.only ho (by omega), ⟨_, hq⟩, hHeld.2.2.2.trans (ho.below (by omega))⟩ (fun hHeld => ?_)
      clear hK K hq ho
      refine wpAnyH_ready (rs := [12]) (by kernel_rfl) (by simp) ?_
      refine AllReadyH.cons rfl (fun K hK => ?_) AllReadyH.nil
      go_simp
      refine hK.out _ _ hHeld (fun hHeld => ?_)
      clear hK K
      refine wpAnyH_done (by kernel_rfl) ?_ _
      go_wp2
      exact bodyPost_ret (v := .tuple #[.agg (regA (upd x k (v : Int))), .bool false]) (results_reg2 Tryd.results64 _ _ (w.heap.size + 1) 54 (upd x k (v : Int)) _ _ rfl rfl HQ.out Tryd.underlying54 rfl Tryd.sizeReg) rfl ⟨by rw [HR.out], hHeld.2.2.2⟩
    · have hq := eq8 (upd x k (v : Int)) x
      rw [all_upd_other x k v hk hn] at hq
      have HR : Hid ((decide (0 < sumTo (upd x k (v : Int)) 8) && decide (x k ≠ v)) = true) := by unfold Hid; simp [hn, hs]
      clear hn
      refine wp_region_held_drew (S := (fun w' => RegAt w' (w.heap.size + 1 + 1) 54 (upd x k (v : Int)) ∧ RegAt w' w.heap.size 54 x ∧ (∃ q, RegAt w' (w.heap.size + 1) 54 q) ∧ Below w.heap.size w w')) (by kernel_rfl) ⟨HA.out.drew, HC.out.drew, ⟨reg0, HD.out.drew⟩, HB.out.drew⟩ (fun hHeld => ?_)
      refine takeD 0 (some 21) (.agg (regA (upd x k (v : Int)))) rfl rfl (by kernel_rfl) (by kernel_rfl) (by kernel_rfl) (fun _ _ _ h => h) (yields_load_reg (by rfl) 54 _ rfl (w.heap.size + 1 + 1) rfl 54 (upd x k (v : Int)) _ (fun w h => h.1) Tryd.underlying54 rfl Tryd.sizeReg) hHeld ?_
      simp only [Act.put, List.setIfInBounds_toArray, List.set_cons_zero, List.set_cons_succ]
      refine takeD 1 (some 22) (.agg (regA (upd x k (v : Int)))) rfl rfl (by kernel_rfl) (by kernel_rfl) (by kernel_rfl) (fun _ _ _ h => h) (yields_load_reg (by rfl) 54 _ rfl (w.heap.size + 1 + 1) rfl 54 (upd x k (v : Int)) _ (fun w h => h.1) Tryd.underlying54 rfl Tryd.sizeReg) hHeld ?_
      simp only [Act.put, List.setIfInBounds_toArray, List.set_cons_zero, List.set_cons_succ]
      refine wpAnyH_ready (rs := [2]) (by kernel_rfl) (by simp) ?_
      refine AllReadyH.cons rfl (fun K hK => ?_) AllReadyH.nil
      go_simp
      go_wp2_with ((go_at_call 49; refine (refTotal (upd x k (v : Int)) _ HY.out).mono ?_; rintro e w1 ⟨rfl, hb1⟩))
      refine hK.out _ _ ⟨hHeld.1.below hb1, hHeld.2.1.below hb1, ⟨_, hHeld.2.2.1.choose_spec.below hb1⟩, hHeld.2.2.2.trans (hb1.mono hHeld.2.2.2.size)⟩ (fun hHeld => ?_)
      clear hK K
      refine takeD 3 (some 24) (.bool true) rfl rfl (by kernel_rfl) (by kernel_rfl) (by kernel_rfl) (fun _ _ _ h => h) (Or.inl ⟨by rfl, ?_⟩) hHeld ?_
      · intro w hSw
        go_simp
      simp only [Act.put, List.setIfInBounds_toArray, List.set_cons_zero, List.set_cons_succ]
      refine takeD 4 (some 25) (.bool true) rfl rfl (by kernel_rfl) (by kernel_rfl) (by kernel_rfl) (fun _ _ _ h => h) (Or.inl ⟨by rfl, ?_⟩) hHeld ?_
      · intro w hSw
        go_simp
      simp only [Act.put, List.setIfInBounds_toArray, List.set_cons_zero, List.set_cons_succ]
      refine takeD 5 (some 26) (.pointer (some ⟨w.heap.size + 1 + 1, 0, none⟩)) rfl rfl (by kernel_rfl) (by kernel_rfl) (by kernel_rfl) (fun _ _ _ h => h) (Or.inl ⟨by rfl, ?_⟩) hHeld ?_
      · intro w hSw
        go_simp
      simp only [Act.put, List.setIfInBounds_toArray, List.set_cons_zero, List.set_cons_succ]
      refine takeD 6 (some 27) (.agg #[.int .i64 (upd x k (v : Int) 0), .int .i64 (upd x k (v : Int) 1), .int .i64 (upd x k (v : Int) 2), .int .i64 (upd x k (v : Int) 3), .int .i64 (upd x k (v : Int) 4), .int .i64 (upd x k (v : Int) 5), .int .i64 (upd x k (v : Int) 6), .int .i64 (upd x k (v : Int) 7)]) rfl rfl (by kernel_rfl) (by kernel_rfl) (by kernel_rfl) (fun _ _ _ h => h) (yields_load_powers (by rfl) 51 _ rfl (w.heap.size + 1 + 1) rfl 54 (upd x k (v : Int)) _ (fun w h => h.1) Tryd.underlying51 rfl Tryd.sizePowers) hHeld ?_
      simp only [Act.put, List.setIfInBounds_toArray, List.set_cons_zero, List.set_cons_succ]
      refine takeD 7 (some 28) (.pointer (some ⟨w.heap.size, 0, none⟩)) rfl rfl (by kernel_rfl) (by kernel_rfl) (by kernel_rfl) (fun _ _ _ h => h) (Or.inl ⟨by rfl, ?_⟩) hHeld ?_
      · intro w hSw
        go_simp
      simp only [Act.put, List.setIfInBounds_toArray, List.set_cons_zero, List.set_cons_succ]
      refine takeD 8 (some 29) (.agg #[.int .i64 (x 0), .int .i64 (x 1), .int .i64 (x 2), .int .i64 (x 3), .int .i64 (x 4), .int .i64 (x 5), .int .i64 (x 6), .int .i64 (x 7)]) rfl rfl (by kernel_rfl) (by kernel_rfl) (by kernel_rfl) (fun _ _ _ h => h) (yields_load_powers (by rfl) 51 _ rfl w.heap.size rfl 54 x _ (fun w h => h.2.1) Tryd.underlying51 rfl Tryd.sizePowers) hHeld ?_
      simp only [Act.put, List.setIfInBounds_toArray, List.set_cons_zero, List.set_cons_succ]
      refine takeD 9 (some 30) (.bool true) rfl rfl (by kernel_rfl) (by kernel_rfl) (by kernel_rfl) (fun _ _ _ h => h) (Or.inl ⟨by rfl, ?_⟩) hHeld ?_
      · intro w hSw
        go_simp
      simp only [Act.put, List.setIfInBounds_toArray, List.set_cons_zero, List.set_cons_succ]
      refine takeD 10 (some 31) (.bool true) rfl rfl (by kernel_rfl) (by kernel_rfl) (by kernel_rfl) (fun _ _ _ h => h) (Or.inl ⟨by rfl, ?_⟩) hHeld ?_
      · intro w hSw
        go_simp
      simp only [Act.put, List.setIfInBounds_toArray, List.set_cons_zero, List.set_cons_succ]
      refine wpAnyH_ready (rs := [11]) (by kernel_rfl) (by simp) ?_
      refine AllReadyH.cons rfl (fun K hK => ?_) AllReadyH.nil
      rw [if_pos (by rfl)]
      refine wp_store_reg 54 _ _ rfl (w.heap.size + 1) (upd x k (v : Int)) rfl rfl 54 (regA hHeld.2.2.1.choose) hHeld.2.2.1.choose_spec (regA_size _) Tryd.sizeReg ?_
      intro w2 hq ho
      have HQ := hide hq
      refine hK.out _ _ ⟨hHeld.1.only ho (by omega), hHeld.2.1.only ho (by omega), ⟨_, hq⟩, hHeld.2.2.2.trans (ho.below (by omega))⟩ (fun hHeld => ?_)
      clear hK K hq ho
      refine wpAnyH_ready (rs := [12]) (by kernel_rfl) (by simp) ?_
      refine AllReadyH.cons rfl (fun K hK => ?_) AllReadyH.nil
      go_simp
      refine hK.out _ _ hHeld (fun hHeld => ?_)
      clear hK K
      refine wpAnyH_done (by kernel_rfl) ?_ _
      go_wp2
      exact bodyPost_ret (v := .tuple #[.agg (regA (upd x k (v : Int))), .bool true]) (results_reg2 Tryd.results64 _ _ (w.heap.size + 1) 54 (upd x k (v : Int)) _ _ rfl rfl HQ.out Tryd.underlying54 rfl Tryd.sizeReg) rfl ⟨by rw [HR.out], hHeld.2.2.2⟩
  · have HR : Hid ((decide (0 < sumTo (upd x k (v : Int)) 8) && decide (x k ≠ v)) = false) := by unfold Hid; simp [hs]
    refine wp_region_held_drew (S := (fun w' => RegAt w' (w.heap.size + 1 + 1) 54 (upd x k (v : Int)) ∧ RegAt w' w.heap.size 54 x ∧ (∃ q, RegAt w' (w.heap.size + 1) 54 q) ∧ Below w.heap.size w w')) (by kernel_rfl) ⟨HA.out.drew, HC.out.drew, ⟨reg0, HD.out.drew⟩, HB.out.drew⟩ (fun hHeld => ?_)
    refine takeD 0 (some 21) (.agg (regA (upd x k (v : Int)))) rfl rfl (by kernel_rfl) (by kernel_rfl) (by kernel_rfl) (fun _ _ _ h => h) (yields_load_reg (by rfl) 54 _ rfl (w.heap.size + 1 + 1) rfl 54 (upd x k (v : Int)) _ (fun w h => h.1) Tryd.underlying54 rfl Tryd.sizeReg) hHeld ?_
    simp only [Act.put, List.setIfInBounds_toArray, List.set_cons_zero, List.set_cons_succ]
    refine takeD 1 (some 22) (.agg (regA (upd x k (v : Int)))) rfl rfl (by kernel_rfl) (by kernel_rfl) (by kernel_rfl) (fun _ _ _ h => h) (yields_load_reg (by rfl) 54 _ rfl (w.heap.size + 1 + 1) rfl 54 (upd x k (v : Int)) _ (fun w h => h.1) Tryd.underlying54 rfl Tryd.sizeReg) hHeld ?_
    simp only [Act.put, List.setIfInBounds_toArray, List.set_cons_zero, List.set_cons_succ]
    refine wpAnyH_ready (rs := [2]) (by kernel_rfl) (by simp) ?_
    refine AllReadyH.cons rfl (fun K hK => ?_) AllReadyH.nil
    go_simp
    go_wp2_with ((go_at_call 49; refine (refTotal (upd x k (v : Int)) _ HY.out).mono ?_; rintro e w1 ⟨rfl, hb1⟩))
    refine hK.out _ _ ⟨hHeld.1.below hb1, hHeld.2.1.below hb1, ⟨_, hHeld.2.2.1.choose_spec.below hb1⟩, hHeld.2.2.2.trans (hb1.mono hHeld.2.2.2.size)⟩ (fun hHeld => ?_)
    clear hK K
    refine takeD 3 (some 24) (.bool false) rfl rfl (by kernel_rfl) (by kernel_rfl) (by kernel_rfl) (fun _ _ _ h => h) (Or.inl ⟨by rfl, ?_⟩) hHeld ?_
    · intro w hSw
      go_simp
    simp only [Act.put, List.setIfInBounds_toArray, List.set_cons_zero, List.set_cons_succ]
    refine takeD 4 (some 25) (.bool false) rfl rfl (by kernel_rfl) (by kernel_rfl) (by kernel_rfl) (fun _ _ _ h => h) (Or.inl ⟨by rfl, ?_⟩) hHeld ?_
    · intro w hSw
      go_simp
    simp only [Act.put, List.setIfInBounds_toArray, List.set_cons_zero, List.set_cons_succ]
    refine takeD 5 (some 26) undef rfl rfl (by kernel_rfl) (by kernel_rfl) (by kernel_rfl) (fun _ _ _ h => h) (Or.inr ⟨by rfl, rfl⟩) hHeld ?_
    simp only [Act.put, List.setIfInBounds_toArray, List.set_cons_zero, List.set_cons_succ]
    refine takeD 6 (some 27) undef rfl rfl (by kernel_rfl) (by kernel_rfl) (by kernel_rfl) (fun _ _ _ h => h) (Or.inr ⟨by rfl, rfl⟩) hHeld ?_
    simp only [Act.put, List.setIfInBounds_toArray, List.set_cons_zero, List.set_cons_succ]
    refine takeD 7 (some 28) undef rfl rfl (by kernel_rfl) (by kernel_rfl) (by kernel_rfl) (fun _ _ _ h => h) (Or.inr ⟨by rfl, rfl⟩) hHeld ?_
    simp only [Act.put, List.setIfInBounds_toArray, List.set_cons_zero, List.set_cons_succ]
    refine takeD 8 (some 29) undef rfl rfl (by kernel_rfl) (by kernel_rfl) (by kernel_rfl) (fun _ _ _ h => h) (Or.inr ⟨by rfl, rfl⟩) hHeld ?_
    simp only [Act.put, List.setIfInBounds_toArray, List.set_cons_zero, List.set_cons_succ]
    refine takeD 9 (some 30) undef rfl rfl (by kernel_rfl) (by kernel_rfl) (by kernel_rfl) (fun _ _ _ h => h) (Or.inr ⟨by rfl, rfl⟩) hHeld ?_
    simp only [Act.put, List.setIfInBounds_toArray, List.set_cons_zero, List.set_cons_succ]
    refine takeD 10 (some 31) (.bool false) rfl rfl (by kernel_rfl) (by kernel_rfl) (by kernel_rfl) (fun _ _ _ h => h) (Or.inl ⟨by rfl, ?_⟩) hHeld ?_
    · intro w hSw
      go_simp
    simp only [Act.put, List.setIfInBounds_toArray, List.set_cons_zero, List.set_cons_succ]
    refine wpAnyH_ready (rs := [11]) (by kernel_rfl) (by simp) ?_
    refine AllReadyH.cons rfl (fun K hK => ?_) AllReadyH.nil
    rw [if_pos (by rfl)]
    refine wp_store_reg 54 _ _ rfl (w.heap.size + 1) (upd x k (v : Int)) rfl rfl 54 (regA hHeld.2.2.1.choose) hHeld.2.2.1.choose_spec (regA_size _) Tryd.sizeReg ?_
    intro w2 hq ho
    have HQ := hide hq
    refine hK.out _ _ ⟨hHeld.1.only ho (by omega), hHeld.2.1.only ho (by omega), ⟨_, hq⟩, hHeld.2.2.2.trans (ho.below (by omega))⟩ (fun hHeld => ?_)
    clear hK K hq ho
    refine wpAnyH_ready (rs := [12]) (by kernel_rfl) (by simp) ?_
    refine AllReadyH.cons rfl (fun K hK => ?_) AllReadyH.nil
    go_simp
    refine hK.out _ _ hHeld (fun hHeld => ?_)
    clear hK K
    refine wpAnyH_done (by kernel_rfl) ?_ _
    go_wp2
    exact bodyPost_ret (v := .tuple #[.agg (regA (upd x k (v : Int))), .bool false]) (results_reg2 Tryd.results64 _ _ (w.heap.size + 1) 54 (upd x k (v : Int)) _ _ rfl rfl HQ.out Tryd.underlying54 rfl Tryd.sizeReg) rfl ⟨by rw [HR.out], hHeld.2.2.2⟩

end Go.Proofs.YtcfjhbcpjpgodaaDoor
namespace Go.Proofs.YtcfjhbcpjpgodaaDoor
open Go.RowKit

set_option maxRecDepth 100000 in
set_option maxHeartbeats 3200000 in
theorem next_j (x : Nat → Int) (t : ByteArray) (m : Nat) (d : Nat) (w : World) (hm : m < 26)
    (a0 : ∀ W : World, (Instr.index 9 (.string t) (.int .i64 0)).run Tryd.prog W = .ok (.int .u8 106) W) (a1 : ∀ W : World, (Instr.index 9 (.string t) (.int .i64 1)).run Tryd.prog W = .ok (.int .u8 ((m : Int) + 97)) W) (hd : d < 10) (a2 : ∀ W : World, (Instr.index 9 (.string t) (.int .i64 2)).run Tryd.prog W = .ok (.int .u8 ((d : Int) + 48)) W) :
    Calls Tryd.prog 64 #[.agg (regA x), .string t] w fun e w' => e = .returned (.tuple #[.agg (regA (upd x (8 + m) (d : Int))), .bool (decide (x (8 + m) = 0) && decide (x (8 + m) ≠ (d : Int)))]) ∧ Below w.heap.size w w' := by
  have e1 : letN ((m : Int) + 97) = m := by rw [letN_yes (by omega)]; omega
  have e2 : digN ((d : Int) + 48) = d := by rw [digN_yes (by omega)]; omega
  have z0 := regA_zero
  have hr0 : ∀ o, RegAt ((w.alloc (.cells (regA x) 54)).alloc o) w.heap.size 54 x := fun o => (RegAt.alloc w 54 x).below ((Below.refl _ _).alloc (Nat.le_refl _) _)
  have hst : ∀ (o1 o2 : Obj) (y z : Nat → Int), (storeCells ⟨w.heap.size + 1 + 1, 0, none⟩ (regA y).toList).run Tryd.prog (((w.alloc o1).alloc o2).alloc (.cells (regA z) 54)) = .ok () (((w.alloc o1).alloc o2).alloc (.cells (regA y) 54)) := fun o1 o2 y z => by
    have := run_storeCells_new (P := Tryd.prog) ((w.alloc o1).alloc o2) 54 z y
    simpa using this
  have hxk := regA_get x (8 + m) (by omega)
  have hset := regA_set x (8 + m) (d : Int) (by omega)
  have hm8 : (m : Int) < 26 := by omega
  go_enter Tryd.func64, Tryd.ntmps64
  go_wp2_with (first | (refine wpList_load_reg rfl 54 _ rfl _ rfl 54 x _ (hr0 _) Tryd.underlying54 rfl Tryd.sizeReg ?_) | (go_at_call 74; refine (letter_any _ _ (by omega) (by omega)).mono ?_; rintro e w1 ⟨rfl, rfl⟩) | (go_at_call 73; refine (digit_any _ _ (by omega) (by omega)).mono ?_; rintro e w1 ⟨rfl, rfl⟩))
  have HA : Hid (RegAt (((w.alloc (.cells (regA x) 54)).alloc (.cells (regA reg0) 54)).alloc (.cells (regA (upd x (8 + m) (d : Int))) 54)) (w.heap.size + 1 + 1) 54 (upd x (8 + m) (d : Int))) := by
    have := RegAt.alloc ((w.alloc (.cells (regA x) 54)).alloc (.cells (regA reg0) 54)) 54 (upd x (8 + m) (d : Int))
    have h2 : RegAt (((w.alloc (.cells (regA x) 54)).alloc (.cells (regA reg0) 54)).alloc (.cells (regA (upd x (8 + m) (d : Int))) 54)) (w.heap.size + 1 + 1) 54 (upd x (8 + m) (d : Int)) := by simpa using this
    exact h2
  have HD : Hid (RegAt (((w.alloc (.cells (regA x) 54)).alloc (.cells (regA reg0) 54)).alloc (.cells (regA (upd x (8 + m) (d : Int))) 54)) (w.heap.size + 1) 54 reg0) := by
    have := (RegAt.alloc (w.alloc (.cells (regA x) 54)) 54 reg0).below ((Below.refl _ _).alloc (Nat.le_refl _) (.cells (regA (upd x (8 + m) (d : Int))) 54))
    have h2 : RegAt (((w.alloc (.cells (regA x) 54)).alloc (.cells (regA reg0) 54)).alloc (.cells (regA (upd x (8 + m) (d : Int))) 54)) (w.heap.size + 1) 54 reg0 := by simpa using this
    exact h2
  have HB : Hid (Below w.heap.size w (((w.alloc (.cells (regA x) 54)).alloc (.cells (regA reg0) 54)).alloc (.cells (regA (upd x (8 + m) (d : Int))) 54))) := (((Below.refl _ w).alloc (Nat.le_refl _) _).alloc (by simp) _).alloc (by simp; omega) _
  clear hr0 hst hxk hset z0 e1 e2 a2 a1
  generalize ((w.alloc (.cells (regA x) 54)).alloc (.cells (regA reg0) 54)).alloc (.cells (regA (upd x (8 + m) (d : Int))) 54) = W4 at HA HD HB ⊢
  by_cases hz : x (8 + m) = 0
  · have hzb : (x (8 + m) == 0) = true := by simpa using hz
    by_cases hn : x (8 + m) = (d : Int)
    · have HR : Hid ((decide (x (8 + m) = 0) && decide (x (8 + m) ≠ (d : Int))) = false) := by unfold Hid; simp only [Bool.and_eq_false_iff, decide_eq_false_iff_not]; omega
      have hnb : (x (8 + m) != (d : Int)) = false := by simp [hn]
      clear hn hz
      refine wp_region_held_drew (S := (fun w' => RegAt w' (w.heap.size + 1 + 1) 54 (upd x (8 + m) (d : Int)) ∧ (∃ q, RegAt w' (w.heap.size + 1) 54 q) ∧ Below w.heap.size w w')) (by kernel_rfl) ⟨HA.out.drew, ⟨reg0, HD.out.drew⟩, HB.out.drew⟩ (fun hHeld => ?_)
      refine takeD 0 (some 50) (.agg (regA (upd x (8 + m) (d : Int)))) rfl rfl (by kernel_rfl) (by kernel_rfl) (by kernel_rfl) (fun _ _ _ h => h) (yields_load_reg (by rfl) 54 _ rfl (w.heap.size + 1 + 1) rfl 54 (upd x (8 + m) (d : Int)) _ (fun w h => h.1) Tryd.underlying54 rfl Tryd.sizeReg) hHeld ?_
      simp only [Act.put, List.setIfInBounds_toArray, List.set_cons_zero, List.set_cons_succ]
      refine takeD 1 (some 51) (.string t) rfl rfl (by kernel_rfl) (by kernel_rfl) (by kernel_rfl) (fun _ _ _ h => h) (Or.inl ⟨by rfl, ?_⟩) hHeld ?_
      · intro w hSw
        go_simp
      simp only [Act.put, List.setIfInBounds_toArray, List.set_cons_zero, List.set_cons_succ]
      refine takeD 2 (some 52) (.int .u8 106) rfl rfl (by kernel_rfl) (by kernel_rfl) (by kernel_rfl) (fun _ _ _ h => h) (Or.inl ⟨by rfl, ?_⟩) hHeld ?_
      · intro w hSw
        go_simp
      simp only [Act.put, List.setIfInBounds_toArray, List.set_cons_zero, List.set_cons_succ]
      refine takeD 3 (some 53) (.bool true) rfl rfl (by kernel_rfl) (by kernel_rfl) (by kernel_rfl) (fun _ _ _ h => h) (Or.inl ⟨by rfl, ?_⟩) hHeld ?_
      · intro w hSw
        go_simp
      simp only [Act.put, List.setIfInBounds_toArray, List.set_cons_zero, List.set_cons_succ]
      refine takeD 4 (some 54) (.int .i64 (x (8 + m))) rfl rfl (by kernel_rfl) (by kernel_rfl) (by kernel_rfl) (fun _ _ _ h => h) (Or.inl ⟨by rfl, ?_⟩) hHeld ?_
      · intro w hSw
        go_simp
      simp only [Act.put, List.setIfInBounds_toArray, List.set_cons_zero, List.set_cons_succ]
      refine takeD 5 (some 55) (.bool true) rfl rfl (by kernel_rfl) (by kernel_rfl) (by kernel_rfl) (fun _ _ _ h => h) (Or.inl ⟨by rfl, ?_⟩) hHeld ?_
      · intro w hSw
        go_simp
      simp only [Act.put, List.setIfInBounds_toArray, List.set_cons_zero, List.set_cons_succ]
      refine takeD 6 (some 56) (.bool true) rfl rfl (by kernel_rfl) (by kernel_rfl) (by kernel_rfl) (fun _ _ _ h => h) (Or.inl ⟨by rfl, ?_⟩) hHeld ?_
      · intro w hSw
        go_simp
      simp only [Act.put, List.setIfInBounds_toArray, List.set_cons_zero, List.set_cons_succ]
      refine takeD 7 (some 57) (.bool true) rfl rfl (by kernel_rfl) (by kernel_rfl) (by kernel_rfl) (fun _ _ _ h => h) (Or.inl ⟨by rfl, ?_⟩) hHeld ?_
      · intro w hSw
        go_simp
      simp only [Act.put, List.setIfInBounds_toArray, List.set_cons_zero, List.set_cons_succ]
      refine takeD 8 (some 58) (.int .i64 (x (8 + m))) rfl rfl (by kernel_rfl) (by kernel_rfl) (by kernel_rfl) (fun _ _ _ h => h) (Or.inl ⟨by rfl, ?_⟩) hHeld ?_
      · intro w hSw
        go_simp
      simp only [Act.put, List.setIfInBounds_toArray, List.set_cons_zero, List.set_cons_succ]
      refine takeD 9 (some 59) (.int .i64 (d : Int)) rfl rfl (by kernel_rfl) (by kernel_rfl) (by kernel_rfl) (fun _ _ _ h => h) (Or.inl ⟨by rfl, ?_⟩) hHeld ?_
      · intro w hSw
        go_simp
      simp only [Act.put, List.setIfInBounds_toArray, List.set_cons_zero, List.set_cons_succ]
      refine takeD 10 (some 60) (.bool false) rfl rfl (by kernel_rfl) (by kernel_rfl) (by kernel_rfl) (fun _ _ _ h => h) (Or.inl ⟨by rfl, ?_⟩) hHeld ?_
      · intro w hSw
        go_simp
      simp only [Act.put, List.setIfInBounds_toArray, List.set_cons_zero, List.set_cons_succ]
      refine takeD 11 (some 61) (.bool false) rfl rfl (by kernel_rfl) (by kernel_rfl) (by kernel_rfl) (fun _ _ _ h => h) (Or.inl ⟨by rfl, ?_⟩) hHeld ?_
      · intro w hSw
        go_simp
      simp only [Act.put, List.setIfInBounds_toArray, List.set_cons_zero, List.set_cons_succ]
      refine wpAnyH_ready (rs := [12]) (by kernel_rfl) (by simp) ?_
      refine AllReadyH.cons rfl (fun K hK => ?_) AllReadyH.nil
      rw [if_pos (by rfl)]
      refine wp_store_reg 54 _ _ rfl (w.heap.size + 1) (upd x (8 + m) (d : Int)) rfl rfl 54 (regA hHeld.2.1.choose) hHeld.2.1.choose_spec (regA_size _) Tryd.sizeReg ?_
      intro w2 hq ho
      have HQ := hide hq
      refine hK.out _ _ ⟨hHeld.1.only ho (by omega), ⟨_, hq⟩, hHeld.2.2.trans (ho.below (by omega))⟩ (fun hHeld => ?_)
      clear hK K hq ho
      refine wpAnyH_ready (rs := [13]) (by kernel_rfl) (by simp) ?_
      refine AllReadyH.cons rfl (fun K hK => ?_) AllReadyH.nil
      go_simp
      refine hK.out _ _ hHeld (fun hHeld => ?_)
      clear hK K
      refine wpAnyH_done (by kernel_rfl) ?_ _
      go_wp2
      exact bodyPost_ret (v := .tuple #[.agg (regA (upd x (8 + m) (d : Int))), .bool false]) (results_reg2 Tryd.results64 _ _ (w.heap.size + 1) 54 (upd x (8 + m) (d : Int)) _ _ rfl rfl HQ.out Tryd.underlying54 rfl Tryd.sizeReg) rfl ⟨by rw [HR.out], hHeld.2.2⟩
    · have HR : Hid ((decide (x (8 + m) = 0) && decide (x (8 + m) ≠ (d : Int))) = true) := by unfold Hid; simp only [Bool.and_eq_true, decide_eq_true_eq]; omega
      have hnb : (x (8 + m) != (d : Int)) = true := by simp [hn]
      clear hn hz
      refine wp_region_held_drew (S := (fun w' => RegAt w' (w.heap.size + 1 + 1) 54 (upd x (8 + m) (d : Int)) ∧ (∃ q, RegAt w' (w.heap.size + 1) 54 q) ∧ Below w.heap.size w w')) (by kernel_rfl) ⟨HA.out.drew, ⟨reg0, HD.out.drew⟩, HB.out.drew⟩ (fun hHeld => ?_)
      refine takeD 0 (some 50) (.agg (regA (upd x (8 + m) (d : Int)))) rfl rfl (by kernel_rfl) (by kernel_rfl) (by kernel_rfl) (fun _ _ _ h => h) (yields_load_reg (by rfl) 54 _ rfl (w.heap.size + 1 + 1) rfl 54 (upd x (8 + m) (d : Int)) _ (fun w h => h.1) Tryd.underlying54 rfl Tryd.sizeReg) hHeld ?_
      simp only [Act.put, List.setIfInBounds_toArray, List.set_cons_zero, List.set_cons_succ]
      refine takeD 1 (some 51) (.string t) rfl rfl (by kernel_rfl) (by kernel_rfl) (by kernel_rfl) (fun _ _ _ h => h) (Or.inl ⟨by rfl, ?_⟩) hHeld ?_
      · intro w hSw
        go_simp
      simp only [Act.put, List.setIfInBounds_toArray, List.set_cons_zero, List.set_cons_succ]
      refine takeD 2 (some 52) (.int .u8 106) rfl rfl (by kernel_rfl) (by kernel_rfl) (by kernel_rfl) (fun _ _ _ h => h) (Or.inl ⟨by rfl, ?_⟩) hHeld ?_
      · intro w hSw
        go_simp
      simp only [Act.put, List.setIfInBounds_toArray, List.set_cons_zero, List.set_cons_succ]
      refine takeD 3 (some 53) (.bool true) rfl rfl (by kernel_rfl) (by kernel_rfl) (by kernel_rfl) (fun _ _ _ h => h) (Or.inl ⟨by rfl, ?_⟩) hHeld ?_
      · intro w hSw
        go_simp
      simp only [Act.put, List.setIfInBounds_toArray, List.set_cons_zero, List.set_cons_succ]
      refine takeD 4 (some 54) (.int .i64 (x (8 + m))) rfl rfl (by kernel_rfl) (by kernel_rfl) (by kernel_rfl) (fun _ _ _ h => h) (Or.inl ⟨by rfl, ?_⟩) hHeld ?_
      · intro w hSw
        go_simp
      simp only [Act.put, List.setIfInBounds_toArray, List.set_cons_zero, List.set_cons_succ]
      refine takeD 5 (some 55) (.bool true) rfl rfl (by kernel_rfl) (by kernel_rfl) (by kernel_rfl) (fun _ _ _ h => h) (Or.inl ⟨by rfl, ?_⟩) hHeld ?_
      · intro w hSw
        go_simp
      simp only [Act.put, List.setIfInBounds_toArray, List.set_cons_zero, List.set_cons_succ]
      refine takeD 6 (some 56) (.bool true) rfl rfl (by kernel_rfl) (by kernel_rfl) (by kernel_rfl) (fun _ _ _ h => h) (Or.inl ⟨by rfl, ?_⟩) hHeld ?_
      · intro w hSw
        go_simp
      simp only [Act.put, List.setIfInBounds_toArray, List.set_cons_zero, List.set_cons_succ]
      refine takeD 7 (some 57) (.bool true) rfl rfl (by kernel_rfl) (by kernel_rfl) (by kernel_rfl) (fun _ _ _ h => h) (Or.inl ⟨by rfl, ?_⟩) hHeld ?_
      · intro w hSw
        go_simp
      simp only [Act.put, List.setIfInBounds_toArray, List.set_cons_zero, List.set_cons_succ]
      refine takeD 8 (some 58) (.int .i64 (x (8 + m))) rfl rfl (by kernel_rfl) (by kernel_rfl) (by kernel_rfl) (fun _ _ _ h => h) (Or.inl ⟨by rfl, ?_⟩) hHeld ?_
      · intro w hSw
        go_simp
      simp only [Act.put, List.setIfInBounds_toArray, List.set_cons_zero, List.set_cons_succ]
      refine takeD 9 (some 59) (.int .i64 (d : Int)) rfl rfl (by kernel_rfl) (by kernel_rfl) (by kernel_rfl) (fun _ _ _ h => h) (Or.inl ⟨by rfl, ?_⟩) hHeld ?_
      · intro w hSw
        go_simp
      simp only [Act.put, List.setIfInBounds_toArray, List.set_cons_zero, List.set_cons_succ]
      refine takeD 10 (some 60) (.bool true) rfl rfl (by kernel_rfl) (by kernel_rfl) (by kernel_rfl) (fun _ _ _ h => h) (Or.inl ⟨by rfl, ?_⟩) hHeld ?_
      · intro w hSw
        go_simp
      simp only [Act.put, List.setIfInBounds_toArray, List.set_cons_zero, List.set_cons_succ]
      refine takeD 11 (some 61) (.bool true) rfl rfl (by kernel_rfl) (by kernel_rfl) (by kernel_rfl) (fun _ _ _ h => h) (Or.inl ⟨by rfl, ?_⟩) hHeld ?_
      · intro w hSw
        go_simp
      simp only [Act.put, List.setIfInBounds_toArray, List.set_cons_zero, List.set_cons_succ]
      refine wpAnyH_ready (rs := [12]) (by kernel_rfl) (by simp) ?_
      refine AllReadyH.cons rfl (fun K hK => ?_) AllReadyH.nil
      rw [if_pos (by rfl)]
      refine wp_store_reg 54 _ _ rfl (w.heap.size + 1) (upd x (8 + m) (d : Int)) rfl rfl 54 (regA hHeld.2.1.choose) hHeld.2.1.choose_spec (regA_size _) Tryd.sizeReg ?_
      intro w2 hq ho
      have HQ := hide hq
      refine hK.out _ _ ⟨hHeld.1.only ho (by omega), ⟨_, hq⟩, hHeld.2.2.trans (ho.below (by omega))⟩ (fun hHeld => ?_)
      clear hK K hq ho
      refine wpAnyH_ready (rs := [13]) (by kernel_rfl) (by simp) ?_
      refine AllReadyH.cons rfl (fun K hK => ?_) AllReadyH.nil
      go_simp
      refine hK.out _ _ hHeld (fun hHeld => ?_)
      clear hK K
      refine wpAnyH_done (by kernel_rfl) ?_ _
      go_wp2
      exact bodyPost_ret (v := .tuple #[.agg (regA (upd x (8 + m) (d : Int))), .bool true]) (results_reg2 Tryd.results64 _ _ (w.heap.size + 1) 54 (upd x (8 + m) (d : Int)) _ _ rfl rfl HQ.out Tryd.underlying54 rfl Tryd.sizeReg) rfl ⟨by rw [HR.out], hHeld.2.2⟩
  · have hzb : (x (8 + m) == 0) = false := by simpa using hz
    have HR : Hid ((decide (x (8 + m) = 0) && decide (x (8 + m) ≠ (d : Int))) = false) := by unfold Hid; simp only [Bool.and_eq_false_iff, decide_eq_false_iff_not]; omega
    clear hz
    refine wp_region_held_drew (S := (fun w' => RegAt w' (w.heap.size + 1 + 1) 54 (upd x (8 + m) (d : Int)) ∧ (∃ q, RegAt w' (w.heap.size + 1) 54 q) ∧ Below w.heap.size w w')) (by kernel_rfl) ⟨HA.out.drew, ⟨reg0, HD.out.drew⟩, HB.out.drew⟩ (fun hHeld => ?_)
    refine takeD 0 (some 50) (.agg (regA (upd x (8 + m) (d : Int)))) rfl rfl (by kernel_rfl) (by kernel_rfl) (by kernel_rfl) (fun _ _ _ h => h) (yields_load_reg (by rfl) 54 _ rfl (w.heap.size + 1 + 1) rfl 54 (upd x (8 + m) (d : Int)) _ (fun w h => h.1) Tryd.underlying54 rfl Tryd.sizeReg) hHeld ?_
    simp only [Act.put, List.setIfInBounds_toArray, List.set_cons_zero, List.set_cons_succ]
    refine takeD 1 (some 51) (.string t) rfl rfl (by kernel_rfl) (by kernel_rfl) (by kernel_rfl) (fun _ _ _ h => h) (Or.inl ⟨by rfl, ?_⟩) hHeld ?_
    · intro w hSw
      go_simp
    simp only [Act.put, List.setIfInBounds_toArray, List.set_cons_zero, List.set_cons_succ]
    refine takeD 2 (some 52) (.int .u8 106) rfl rfl (by kernel_rfl) (by kernel_rfl) (by kernel_rfl) (fun _ _ _ h => h) (Or.inl ⟨by rfl, ?_⟩) hHeld ?_
    · intro w hSw
      go_simp
    simp only [Act.put, List.setIfInBounds_toArray, List.set_cons_zero, List.set_cons_succ]
    refine takeD 3 (some 53) (.bool true) rfl rfl (by kernel_rfl) (by kernel_rfl) (by kernel_rfl) (fun _ _ _ h => h) (Or.inl ⟨by rfl, ?_⟩) hHeld ?_
    · intro w hSw
      go_simp
    simp only [Act.put, List.setIfInBounds_toArray, List.set_cons_zero, List.set_cons_succ]
    refine takeD 4 (some 54) (.int .i64 (x (8 + m))) rfl rfl (by kernel_rfl) (by kernel_rfl) (by kernel_rfl) (fun _ _ _ h => h) (Or.inl ⟨by rfl, ?_⟩) hHeld ?_
    · intro w hSw
      go_simp
    simp only [Act.put, List.setIfInBounds_toArray, List.set_cons_zero, List.set_cons_succ]
    refine takeD 5 (some 55) (.bool false) rfl rfl (by kernel_rfl) (by kernel_rfl) (by kernel_rfl) (fun _ _ _ h => h) (Or.inl ⟨by rfl, ?_⟩) hHeld ?_
    · intro w hSw
      go_simp
    simp only [Act.put, List.setIfInBounds_toArray, List.set_cons_zero, List.set_cons_succ]
    refine takeD 6 (some 56) (.bool false) rfl rfl (by kernel_rfl) (by kernel_rfl) (by kernel_rfl) (fun _ _ _ h => h) (Or.inl ⟨by rfl, ?_⟩) hHeld ?_
    · intro w hSw
      go_simp
    simp only [Act.put, List.setIfInBounds_toArray, List.set_cons_zero, List.set_cons_succ]
    refine takeD 7 (some 57) (.bool false) rfl rfl (by kernel_rfl) (by kernel_rfl) (by kernel_rfl) (fun _ _ _ h => h) (Or.inl ⟨by rfl, ?_⟩) hHeld ?_
    · intro w hSw
      go_simp
    simp only [Act.put, List.setIfInBounds_toArray, List.set_cons_zero, List.set_cons_succ]
    refine takeD 8 (some 58) undef rfl rfl (by kernel_rfl) (by kernel_rfl) (by kernel_rfl) (fun _ _ _ h => h) (Or.inr ⟨by rfl, rfl⟩) hHeld ?_
    simp only [Act.put, List.setIfInBounds_toArray, List.set_cons_zero, List.set_cons_succ]
    refine takeD 9 (some 59) undef rfl rfl (by kernel_rfl) (by kernel_rfl) (by kernel_rfl) (fun _ _ _ h => h) (Or.inr ⟨by rfl, rfl⟩) hHeld ?_
    simp only [Act.put, List.setIfInBounds_toArray, List.set_cons_zero, List.set_cons_succ]
    refine takeD 10 (some 60) undef rfl rfl (by kernel_rfl) (by kernel_rfl) (by kernel_rfl) (fun _ _ _ h => h) (Or.inr ⟨by rfl, rfl⟩) hHeld ?_
    simp only [Act.put, List.setIfInBounds_toArray, List.set_cons_zero, List.set_cons_succ]
    refine takeD 11 (some 61) (.bool false) rfl rfl (by kernel_rfl) (by kernel_rfl) (by kernel_rfl) (fun _ _ _ h => h) (Or.inl ⟨by rfl, ?_⟩) hHeld ?_
    · intro w hSw
      go_simp
    simp only [Act.put, List.setIfInBounds_toArray, List.set_cons_zero, List.set_cons_succ]
    refine wpAnyH_ready (rs := [12]) (by kernel_rfl) (by simp) ?_
    refine AllReadyH.cons rfl (fun K hK => ?_) AllReadyH.nil
    rw [if_pos (by rfl)]
    refine wp_store_reg 54 _ _ rfl (w.heap.size + 1) (upd x (8 + m) (d : Int)) rfl rfl 54 (regA hHeld.2.1.choose) hHeld.2.1.choose_spec (regA_size _) Tryd.sizeReg ?_
    intro w2 hq ho
    have HQ := hide hq
    refine hK.out _ _ ⟨hHeld.1.only ho (by omega), ⟨_, hq⟩, hHeld.2.2.trans (ho.below (by omega))⟩ (fun hHeld => ?_)
    clear hK K hq ho
    refine wpAnyH_ready (rs := [13]) (by kernel_rfl) (by simp) ?_
    refine AllReadyH.cons rfl (fun K hK => ?_) AllReadyH.nil
    go_simp
    refine hK.out _ _ hHeld (fun hHeld => ?_)
    clear hK K
    refine wpAnyH_done (by kernel_rfl) ?_ _
    go_wp2
    exact bodyPost_ret (v := .tuple #[.agg (regA (upd x (8 + m) (d : Int))), .bool false]) (results_reg2 Tryd.results64 _ _ (w.heap.size + 1) 54 (upd x (8 + m) (d : Int)) _ _ rfl rfl HQ.out Tryd.underlying54 rfl Tryd.sizeReg) rfl ⟨by rw [HR.out], hHeld.2.2⟩

end Go.Proofs.YtcfjhbcpjpgodaaDoor
namespace Go.Proofs.YtcfjhbcpjpgodaaDoor
open Go.RowKit

set_option maxRecDepth 100000 in
set_option maxHeartbeats 3200000 in
theorem next_l (x : Nat → Int) (t : ByteArray) (m : Nat) (w : World) (hm : m < 26)
    (a0 : ∀ W : World, (Instr.index 9 (.string t) (.int .i64 0)).run Tryd.prog W = .ok (.int .u8 108) W) (a1 : ∀ W : World, (Instr.index 9 (.string t) (.int .i64 1)).run Tryd.prog W = .ok (.int .u8 ((m : Int) + 97)) W) :
    Calls Tryd.prog 64 #[.agg (regA x), .string t] w fun e w' => e = .returned (.tuple #[.agg (regA (upd x (8 + m) 0)), .bool (decide (x (8 + m) ≠ 0) && decide (x (8 + m) ≠ 0))]) ∧ Below w.heap.size w w' := by
  have e1 : letN ((m : Int) + 97) = m := by rw [letN_yes (by omega)]; omega
  have z0 := regA_zero
  have hr0 : ∀ o, RegAt ((w.alloc (.cells (regA x) 54)).alloc o) w.heap.size 54 x := fun o => (RegAt.alloc w 54 x).below ((Below.refl _ _).alloc (Nat.le_refl _) _)
  have hst : ∀ (o1 o2 : Obj) (y z : Nat → Int), (storeCells ⟨w.heap.size + 1 + 1, 0, none⟩ (regA y).toList).run Tryd.prog (((w.alloc o1).alloc o2).alloc (.cells (regA z) 54)) = .ok () (((w.alloc o1).alloc o2).alloc (.cells (regA y) 54)) := fun o1 o2 y z => by
    have := run_storeCells_new (P := Tryd.prog) ((w.alloc o1).alloc o2) 54 z y
    simpa using this
  have hxk := regA_get x (8 + m) (by omega)
  have hset := regA_set x (8 + m) 0 (by omega)
  have hm8 : (m : Int) < 26 := by omega
  go_enter Tryd.func64, Tryd.ntmps64
  go_wp2_with (first | (refine wpList_load_reg rfl 54 _ rfl _ rfl 54 x _ (hr0 _) Tryd.underlying54 rfl Tryd.sizeReg ?_) | (go_at_call 74; refine (letter_any _ _ (by omega) (by omega)).mono ?_; rintro e w1 ⟨rfl, rfl⟩) | (go_at_call 73; refine (digit_any _ _ (by omega) (by omega)).mono ?_; rintro e w1 ⟨rfl, rfl⟩))
  have HA : Hid (RegAt (((w.alloc (.cells (regA x) 54)).alloc (.cells (regA reg0) 54)).alloc (.cells (regA (upd x (8 + m) 0)) 54)) (w.heap.size + 1 + 1) 54 (upd x (8 + m) 0)) := by
    have := RegAt.alloc ((w.alloc (.cells (regA x) 54)).alloc (.cells (regA reg0) 54)) 54 (upd x (8 + m) 0)
    have h2 : RegAt (((w.alloc (.cells (regA x) 54)).alloc (.cells (regA reg0) 54)).alloc (.cells (regA (upd x (8 + m) 0)) 54)) (w.heap.size + 1 + 1) 54 (upd x (8 + m) 0) := by simpa using this
    exact h2
  have HD : Hid (RegAt (((w.alloc (.cells (regA x) 54)).alloc (.cells (regA reg0) 54)).alloc (.cells (regA (upd x (8 + m) 0)) 54)) (w.heap.size + 1) 54 reg0) := by
    have := (RegAt.alloc (w.alloc (.cells (regA x) 54)) 54 reg0).below ((Below.refl _ _).alloc (Nat.le_refl _) (.cells (regA (upd x (8 + m) 0)) 54))
    have h2 : RegAt (((w.alloc (.cells (regA x) 54)).alloc (.cells (regA reg0) 54)).alloc (.cells (regA (upd x (8 + m) 0)) 54)) (w.heap.size + 1) 54 reg0 := by simpa using this
    exact h2
  have HB : Hid (Below w.heap.size w (((w.alloc (.cells (regA x) 54)).alloc (.cells (regA reg0) 54)).alloc (.cells (regA (upd x (8 + m) 0)) 54))) := (((Below.refl _ w).alloc (Nat.le_refl _) _).alloc (by simp) _).alloc (by simp; omega) _
  clear hr0 hst hxk hset z0 e1 a1
  generalize ((w.alloc (.cells (regA x) 54)).alloc (.cells (regA reg0) 54)).alloc (.cells (regA (upd x (8 + m) 0)) 54) = W4 at HA HD HB ⊢
  by_cases hz : x (8 + m) = 0
  · have hzb : (x (8 + m) == 0) = true := by simpa using hz
    have HR : Hid ((decide (x (8 + m) ≠ 0) && decide (x (8 + m) ≠ 0)) = false) := by unfold Hid; simp only [Bool.and_eq_false_iff, decide_eq_false_iff_not]; omega
    clear hz
    refine wp_region_held_drew (S := (fun w' => RegAt w' (w.heap.size + 1 + 1) 54 (upd x (8 + m) 0) ∧ (∃ q, RegAt w' (w.heap.size + 1) 54 q) ∧ Below w.heap.size w w')) (by kernel_rfl) ⟨HA.out.drew, ⟨reg0, HD.out.drew⟩, HB.out.drew⟩ (fun hHeld => ?_)
    refine takeD 0 (some 50) (.agg (regA (upd x (8 + m) 0))) rfl rfl (by kernel_rfl) (by kernel_rfl) (by kernel_rfl) (fun _ _ _ h => h) (yields_load_reg (by rfl) 54 _ rfl (w.heap.size + 1 + 1) rfl 54 (upd x (8 + m) 0) _ (fun w h => h.1) Tryd.underlying54 rfl Tryd.sizeReg) hHeld ?_
    simp only [Act.put, List.setIfInBounds_toArray, List.set_cons_zero, List.set_cons_succ]
    refine takeD 1 (some 51) (.string t) rfl rfl (by kernel_rfl) (by kernel_rfl) (by kernel_rfl) (fun _ _ _ h => h) (Or.inl ⟨by rfl, ?_⟩) hHeld ?_
    · intro w hSw
      go_simp
    simp only [Act.put, List.setIfInBounds_toArray, List.set_cons_zero, List.set_cons_succ]
    refine takeD 2 (some 52) (.int .u8 108) rfl rfl (by kernel_rfl) (by kernel_rfl) (by kernel_rfl) (fun _ _ _ h => h) (Or.inl ⟨by rfl, ?_⟩) hHeld ?_
    · intro w hSw
      go_simp
    simp only [Act.put, List.setIfInBounds_toArray, List.set_cons_zero, List.set_cons_succ]
    refine takeD 3 (some 53) (.bool false) rfl rfl (by kernel_rfl) (by kernel_rfl) (by kernel_rfl) (fun _ _ _ h => h) (Or.inl ⟨by rfl, ?_⟩) hHeld ?_
    · intro w hSw
      go_simp
    simp only [Act.put, List.setIfInBounds_toArray, List.set_cons_zero, List.set_cons_succ]
    refine takeD 4 (some 54) (.int .i64 (x (8 + m))) rfl rfl (by kernel_rfl) (by kernel_rfl) (by kernel_rfl) (fun _ _ _ h => h) (Or.inl ⟨by rfl, ?_⟩) hHeld ?_
    · intro w hSw
      go_simp
    simp only [Act.put, List.setIfInBounds_toArray, List.set_cons_zero, List.set_cons_succ]
    refine takeD 5 (some 55) (.bool true) rfl rfl (by kernel_rfl) (by kernel_rfl) (by kernel_rfl) (fun _ _ _ h => h) (Or.inl ⟨by rfl, ?_⟩) hHeld ?_
    · intro w hSw
      go_simp
    simp only [Act.put, List.setIfInBounds_toArray, List.set_cons_zero, List.set_cons_succ]
    refine takeD 6 (some 56) (.bool false) rfl rfl (by kernel_rfl) (by kernel_rfl) (by kernel_rfl) (fun _ _ _ h => h) (Or.inl ⟨by rfl, ?_⟩) hHeld ?_
    · intro w hSw
      go_simp
    simp only [Act.put, List.setIfInBounds_toArray, List.set_cons_zero, List.set_cons_succ]
    refine takeD 7 (some 57) (.bool false) rfl rfl (by kernel_rfl) (by kernel_rfl) (by kernel_rfl) (fun _ _ _ h => h) (Or.inl ⟨by rfl, ?_⟩) hHeld ?_
    · intro w hSw
      go_simp
    simp only [Act.put, List.setIfInBounds_toArray, List.set_cons_zero, List.set_cons_succ]
    refine takeD 8 (some 58) undef rfl rfl (by kernel_rfl) (by kernel_rfl) (by kernel_rfl) (fun _ _ _ h => h) (Or.inr ⟨by rfl, rfl⟩) hHeld ?_
    simp only [Act.put, List.setIfInBounds_toArray, List.set_cons_zero, List.set_cons_succ]
    refine takeD 9 (some 59) undef rfl rfl (by kernel_rfl) (by kernel_rfl) (by kernel_rfl) (fun _ _ _ h => h) (Or.inr ⟨by rfl, rfl⟩) hHeld ?_
    simp only [Act.put, List.setIfInBounds_toArray, List.set_cons_zero, List.set_cons_succ]
    refine takeD 10 (some 60) undef rfl rfl (by kernel_rfl) (by kernel_rfl) (by kernel_rfl) (fun _ _ _ h => h) (Or.inr ⟨by rfl, rfl⟩) hHeld ?_
    simp only [Act.put, List.setIfInBounds_toArray, List.set_cons_zero, List.set_cons_succ]
    refine takeD 11 (some 61) (.bool false) rfl rfl (by kernel_rfl) (by kernel_rfl) (by kernel_rfl) (fun _ _ _ h => h) (Or.inl ⟨by rfl, ?_⟩) hHeld ?_
    · intro w hSw
      go_simp
    simp only [Act.put, List.setIfInBounds_toArray, List.set_cons_zero, List.set_cons_succ]
    refine wpAnyH_ready (rs := [12]) (by kernel_rfl) (by simp) ?_
    refine AllReadyH.cons rfl (fun K hK => ?_) AllReadyH.nil
    rw [if_pos (by rfl)]
    refine wp_store_reg 54 _ _ rfl (w.heap.size + 1) (upd x (8 + m) 0) rfl rfl 54 (regA hHeld.2.1.choose) hHeld.2.1.choose_spec (regA_size _) Tryd.sizeReg ?_
    intro w2 hq ho
    have HQ := hide hq
    refine hK.out _ _ ⟨hHeld.1.only ho (by omega), ⟨_, hq⟩, hHeld.2.2.trans (ho.below (by omega))⟩ (fun hHeld => ?_)
    clear hK K hq ho
    refine wpAnyH_ready (rs := [13]) (by kernel_rfl) (by simp) ?_
    refine AllReadyH.cons rfl (fun K hK => ?_) AllReadyH.nil
    go_simp
    refine hK.out _ _ hHeld (fun hHeld => ?_)
    clear hK K
    refine wpAnyH_done (by kernel_rfl) ?_ _
    go_wp2
    exact bodyPost_ret (v := .tuple #[.agg (regA (upd x (8 + m) 0)), .bool false]) (results_reg2 Tryd.results64 _ _ (w.heap.size + 1) 54 (upd x (8 + m) 0) _ _ rfl rfl HQ.out Tryd.underlying54 rfl Tryd.sizeReg) rfl ⟨by rw [HR.out], hHeld.2.2⟩
  · have hzb : (x (8 + m) == 0) = false := by simpa using hz
    by_cases hn : x (8 + m) = 0
    · have HR : Hid ((decide (x (8 + m) ≠ 0) && decide (x (8 + m) ≠ 0)) = false) := by unfold Hid; simp only [Bool.and_eq_false_iff, decide_eq_false_iff_not]; omega
      have hnb : (x (8 + m) != 0) = false := by simp [hn]
      clear hn hz
      refine wp_region_held_drew (S := (fun w' => RegAt w' (w.heap.size + 1 + 1) 54 (upd x (8 + m) 0) ∧ (∃ q, RegAt w' (w.heap.size + 1) 54 q) ∧ Below w.heap.size w w')) (by kernel_rfl) ⟨HA.out.drew, ⟨reg0, HD.out.drew⟩, HB.out.drew⟩ (fun hHeld => ?_)
      refine takeD 0 (some 50) (.agg (regA (upd x (8 + m) 0))) rfl rfl (by kernel_rfl) (by kernel_rfl) (by kernel_rfl) (fun _ _ _ h => h) (yields_load_reg (by rfl) 54 _ rfl (w.heap.size + 1 + 1) rfl 54 (upd x (8 + m) 0) _ (fun w h => h.1) Tryd.underlying54 rfl Tryd.sizeReg) hHeld ?_
      simp only [Act.put, List.setIfInBounds_toArray, List.set_cons_zero, List.set_cons_succ]
      refine takeD 1 (some 51) (.string t) rfl rfl (by kernel_rfl) (by kernel_rfl) (by kernel_rfl) (fun _ _ _ h => h) (Or.inl ⟨by rfl, ?_⟩) hHeld ?_
      · intro w hSw
        go_simp
      simp only [Act.put, List.setIfInBounds_toArray, List.set_cons_zero, List.set_cons_succ]
      refine takeD 2 (some 52) (.int .u8 108) rfl rfl (by kernel_rfl) (by kernel_rfl) (by kernel_rfl) (fun _ _ _ h => h) (Or.inl ⟨by rfl, ?_⟩) hHeld ?_
      · intro w hSw
        go_simp
      simp only [Act.put, List.setIfInBounds_toArray, List.set_cons_zero, List.set_cons_succ]
      refine takeD 3 (some 53) (.bool false) rfl rfl (by kernel_rfl) (by kernel_rfl) (by kernel_rfl) (fun _ _ _ h => h) (Or.inl ⟨by rfl, ?_⟩) hHeld ?_
      · intro w hSw
        go_simp
      simp only [Act.put, List.setIfInBounds_toArray, List.set_cons_zero, List.set_cons_succ]
      refine takeD 4 (some 54) (.int .i64 (x (8 + m))) rfl rfl (by kernel_rfl) (by kernel_rfl) (by kernel_rfl) (fun _ _ _ h => h) (Or.inl ⟨by rfl, ?_⟩) hHeld ?_
      · intro w hSw
        go_simp
      simp only [Act.put, List.setIfInBounds_toArray, List.set_cons_zero, List.set_cons_succ]
      refine takeD 5 (some 55) (.bool false) rfl rfl (by kernel_rfl) (by kernel_rfl) (by kernel_rfl) (fun _ _ _ h => h) (Or.inl ⟨by rfl, ?_⟩) hHeld ?_
      · intro w hSw
        go_simp
      simp only [Act.put, List.setIfInBounds_toArray, List.set_cons_zero, List.set_cons_succ]
      refine takeD 6 (some 56) (.bool true) rfl rfl (by kernel_rfl) (by kernel_rfl) (by kernel_rfl) (fun _ _ _ h => h) (Or.inl ⟨by rfl, ?_⟩) hHeld ?_
      · intro w hSw
        go_simp
      simp only [Act.put, List.setIfInBounds_toArray, List.set_cons_zero, List.set_cons_succ]
      refine takeD 7 (some 57) (.bool true) rfl rfl (by kernel_rfl) (by kernel_rfl) (by kernel_rfl) (fun _ _ _ h => h) (Or.inl ⟨by rfl, ?_⟩) hHeld ?_
      · intro w hSw
        go_simp
      simp only [Act.put, List.setIfInBounds_toArray, List.set_cons_zero, List.set_cons_succ]
      refine takeD 8 (some 58) (.int .i64 (x (8 + m))) rfl rfl (by kernel_rfl) (by kernel_rfl) (by kernel_rfl) (fun _ _ _ h => h) (Or.inl ⟨by rfl, ?_⟩) hHeld ?_
      · intro w hSw
        go_simp
      simp only [Act.put, List.setIfInBounds_toArray, List.set_cons_zero, List.set_cons_succ]
      refine takeD 9 (some 59) (.int .i64 0) rfl rfl (by kernel_rfl) (by kernel_rfl) (by kernel_rfl) (fun _ _ _ h => h) (Or.inl ⟨by rfl, ?_⟩) hHeld ?_
      · intro w hSw
        go_simp
      simp only [Act.put, List.setIfInBounds_toArray, List.set_cons_zero, List.set_cons_succ]
      refine takeD 10 (some 60) (.bool false) rfl rfl (by kernel_rfl) (by kernel_rfl) (by kernel_rfl) (fun _ _ _ h => h) (Or.inl ⟨by rfl, ?_⟩) hHeld ?_
      · intro w hSw
        go_simp
      simp only [Act.put, List.setIfInBounds_toArray, List.set_cons_zero, List.set_cons_succ]
      refine takeD 11 (some 61) (.bool false) rfl rfl (by kernel_rfl) (by kernel_rfl) (by kernel_rfl) (fun _ _ _ h => h) (Or.inl ⟨by rfl, ?_⟩) hHeld ?_
      · intro w hSw
        go_simp
      simp only [Act.put, List.setIfInBounds_toArray, List.set_cons_zero, List.set_cons_succ]
      refine wpAnyH_ready (rs := [12]) (by kernel_rfl) (by simp) ?_
      refine AllReadyH.cons rfl (fun K hK => ?_) AllReadyH.nil
      rw [if_pos (by rfl)]
      refine wp_store_reg 54 _ _ rfl (w.heap.size + 1) (upd x (8 + m) 0) rfl rfl 54 (regA hHeld.2.1.choose) hHeld.2.1.choose_spec (regA_size _) Tryd.sizeReg ?_
      intro w2 hq ho
      have HQ := hide hq
      refine hK.out _ _ ⟨hHeld.1.only ho (by omega), ⟨_, hq⟩, hHeld.2.2.trans (ho.below (by omega))⟩ (fun hHeld => ?_)
      clear hK K hq ho
      refine wpAnyH_ready (rs := [13]) (by kernel_rfl) (by simp) ?_
      refine AllReadyH.cons rfl (fun K hK => ?_) AllReadyH.nil
      go_simp
      refine hK.out _ _ hHeld (fun hHeld => ?_)
      clear hK K
      refine wpAnyH_done (by kernel_rfl) ?_ _
      go_wp2
      exact bodyPost_ret (v := .tuple #[.agg (regA (upd x (8 + m) 0)), .bool false]) (results_reg2 Tryd.results64 _ _ (w.heap.size + 1) 54 (upd x (8 + m) 0) _ _ rfl rfl HQ.out Tryd.underlying54 rfl Tryd.sizeReg) rfl ⟨by rw [HR.out], hHeld.2.2⟩
    · have HR : Hid ((decide (x (8 + m) ≠ 0) && decide (x (8 + m) ≠ 0)) = true) := by unfold Hid; simp only [Bool.and_eq_true, decide_eq_true_eq]; omega
      have hnb : (x (8 + m) != 0) = true := by simp [hn]
      clear hn hz
      refine wp_region_held_drew (S := (fun w' => RegAt w' (w.heap.size + 1 + 1) 54 (upd x (8 + m) 0) ∧ (∃ q, RegAt w' (w.heap.size + 1) 54 q) ∧ Below w.heap.size w w')) (by kernel_rfl) ⟨HA.out.drew, ⟨reg0, HD.out.drew⟩, HB.out.drew⟩ (fun hHeld => ?_)
      refine takeD 0 (some 50) (.agg (regA (upd x (8 + m) 0))) rfl rfl (by kernel_rfl) (by kernel_rfl) (by kernel_rfl) (fun _ _ _ h => h) (yields_load_reg (by rfl) 54 _ rfl (w.heap.size + 1 + 1) rfl 54 (upd x (8 + m) 0) _ (fun w h => h.1) Tryd.underlying54 rfl Tryd.sizeReg) hHeld ?_
      simp only [Act.put, List.setIfInBounds_toArray, List.set_cons_zero, List.set_cons_succ]
      refine takeD 1 (some 51) (.string t) rfl rfl (by kernel_rfl) (by kernel_rfl) (by kernel_rfl) (fun _ _ _ h => h) (Or.inl ⟨by rfl, ?_⟩) hHeld ?_
      · intro w hSw
        go_simp
      simp only [Act.put, List.setIfInBounds_toArray, List.set_cons_zero, List.set_cons_succ]
      refine takeD 2 (some 52) (.int .u8 108) rfl rfl (by kernel_rfl) (by kernel_rfl) (by kernel_rfl) (fun _ _ _ h => h) (Or.inl ⟨by rfl, ?_⟩) hHeld ?_
      · intro w hSw
        go_simp
      simp only [Act.put, List.setIfInBounds_toArray, List.set_cons_zero, List.set_cons_succ]
      refine takeD 3 (some 53) (.bool false) rfl rfl (by kernel_rfl) (by kernel_rfl) (by kernel_rfl) (fun _ _ _ h => h) (Or.inl ⟨by rfl, ?_⟩) hHeld ?_
      · intro w hSw
        go_simp
      simp only [Act.put, List.setIfInBounds_toArray, List.set_cons_zero, List.set_cons_succ]
      refine takeD 4 (some 54) (.int .i64 (x (8 + m))) rfl rfl (by kernel_rfl) (by kernel_rfl) (by kernel_rfl) (fun _ _ _ h => h) (Or.inl ⟨by rfl, ?_⟩) hHeld ?_
      · intro w hSw
        go_simp
      simp only [Act.put, List.setIfInBounds_toArray, List.set_cons_zero, List.set_cons_succ]
      refine takeD 5 (some 55) (.bool false) rfl rfl (by kernel_rfl) (by kernel_rfl) (by kernel_rfl) (fun _ _ _ h => h) (Or.inl ⟨by rfl, ?_⟩) hHeld ?_
      · intro w hSw
        go_simp
      simp only [Act.put, List.setIfInBounds_toArray, List.set_cons_zero, List.set_cons_succ]
      refine takeD 6 (some 56) (.bool true) rfl rfl (by kernel_rfl) (by kernel_rfl) (by kernel_rfl) (fun _ _ _ h => h) (Or.inl ⟨by rfl, ?_⟩) hHeld ?_
      · intro w hSw
        go_simp
      simp only [Act.put, List.setIfInBounds_toArray, List.set_cons_zero, List.set_cons_succ]
      refine takeD 7 (some 57) (.bool true) rfl rfl (by kernel_rfl) (by kernel_rfl) (by kernel_rfl) (fun _ _ _ h => h) (Or.inl ⟨by rfl, ?_⟩) hHeld ?_
      · intro w hSw
        go_simp
      simp only [Act.put, List.setIfInBounds_toArray, List.set_cons_zero, List.set_cons_succ]
      refine takeD 8 (some 58) (.int .i64 (x (8 + m))) rfl rfl (by kernel_rfl) (by kernel_rfl) (by kernel_rfl) (fun _ _ _ h => h) (Or.inl ⟨by rfl, ?_⟩) hHeld ?_
      · intro w hSw
        go_simp
      simp only [Act.put, List.setIfInBounds_toArray, List.set_cons_zero, List.set_cons_succ]
      refine takeD 9 (some 59) (.int .i64 0) rfl rfl (by kernel_rfl) (by kernel_rfl) (by kernel_rfl) (fun _ _ _ h => h) (Or.inl ⟨by rfl, ?_⟩) hHeld ?_
      · intro w hSw
        go_simp
      simp only [Act.put, List.setIfInBounds_toArray, List.set_cons_zero, List.set_cons_succ]
      refine takeD 10 (some 60) (.bool true) rfl rfl (by kernel_rfl) (by kernel_rfl) (by kernel_rfl) (fun _ _ _ h => h) (Or.inl ⟨by rfl, ?_⟩) hHeld ?_
      · intro w hSw
        go_simp
      simp only [Act.put, List.setIfInBounds_toArray, List.set_cons_zero, List.set_cons_succ]
      refine takeD 11 (some 61) (.bool true) rfl rfl (by kernel_rfl) (by kernel_rfl) (by kernel_rfl) (fun _ _ _ h => h) (Or.inl ⟨by rfl, ?_⟩) hHeld ?_
      · intro w hSw
        go_simp
      simp only [Act.put, List.setIfInBounds_toArray, List.set_cons_zero, List.set_cons_succ]
      refine wpAnyH_ready (rs := [12]) (by kernel_rfl) (by simp) ?_
      refine AllReadyH.cons rfl (fun K hK => ?_) AllReadyH.nil
      rw [if_pos (by rfl)]
      refine wp_store_reg 54 _ _ rfl (w.heap.size + 1) (upd x (8 + m) 0) rfl rfl 54 (regA hHeld.2.1.choose) hHeld.2.1.choose_spec (regA_size _) Tryd.sizeReg ?_
      intro w2 hq ho
      have HQ := hide hq
      refine hK.out _ _ ⟨hHeld.1.only ho (by omega), ⟨_, hq⟩, hHeld.2.2.trans (ho.below (by omega))⟩ (fun hHeld => ?_)
      clear hK K hq ho
      refine wpAnyH_ready (rs := [13]) (by kernel_rfl) (by simp) ?_
      refine AllReadyH.cons rfl (fun K hK => ?_) AllReadyH.nil
      go_simp
      refine hK.out _ _ hHeld (fun hHeld => ?_)
      clear hK K
      refine wpAnyH_done (by kernel_rfl) ?_ _
      go_wp2
      exact bodyPost_ret (v := .tuple #[.agg (regA (upd x (8 + m) 0)), .bool true]) (results_reg2 Tryd.results64 _ _ (w.heap.size + 1) 54 (upd x (8 + m) 0) _ _ rfl rfl HQ.out Tryd.underlying54 rfl Tryd.sizeReg) rfl ⟨by rw [HR.out], hHeld.2.2⟩

end Go.Proofs.YtcfjhbcpjpgodaaDoor
namespace Go.Proofs.YtcfjhbcpjpgodaaDoor
open Go.RowKit

set_option maxRecDepth 100000 in
set_option maxHeartbeats 3200000 in
theorem next_r (x : Nat → Int) (t : ByteArray) (m : Nat) (d : Nat) (w : World) (hm : m < 26)
    (a0 : ∀ W : World, (Instr.index 9 (.string t) (.int .i64 0)).run Tryd.prog W = .ok (.int .u8 114) W) (a1 : ∀ W : World, (Instr.index 9 (.string t) (.int .i64 1)).run Tryd.prog W = .ok (.int .u8 ((m : Int) + 97)) W) (hd : d < 10) (a2 : ∀ W : World, (Instr.index 9 (.string t) (.int .i64 2)).run Tryd.prog W = .ok (.int .u8 ((d : Int) + 48)) W) :
    Calls Tryd.prog 64 #[.agg (regA x), .string t] w fun e w' => e = .returned (.tuple #[.agg (regA (upd x (8 + m) (d : Int))), .bool (decide (x (8 + m) ≠ 0) && decide (x (8 + m) ≠ (d : Int)))]) ∧ Below w.heap.size w w' := by
  have e1 : letN ((m : Int) + 97) = m := by rw [letN_yes (by omega)]; omega
  have e2 : digN ((d : Int) + 48) = d := by rw [digN_yes (by omega)]; omega
  have z0 := regA_zero
  have hr0 : ∀ o, RegAt ((w.alloc (.cells (regA x) 54)).alloc o) w.heap.size 54 x := fun o => (RegAt.alloc w 54 x).below ((Below.refl _ _).alloc (Nat.le_refl _) _)
  have hst : ∀ (o1 o2 : Obj) (y z : Nat → Int), (storeCells ⟨w.heap.size + 1 + 1, 0, none⟩ (regA y).toList).run Tryd.prog (((w.alloc o1).alloc o2).alloc (.cells (regA z) 54)) = .ok () (((w.alloc o1).alloc o2).alloc (.cells (regA y) 54)) := fun o1 o2 y z => by
    have := run_storeCells_new (P := Tryd.prog) ((w.alloc o1).alloc o2) 54 z y
    simpa using this
  have hxk := regA_get x (8 + m) (by omega)
  have hset := regA_set x (8 + m) (d : Int) (by omega)
  have hm8 : (m : Int) < 26 := by omega
  go_enter Tryd.func64, Tryd.ntmps64
  go_wp2_with (first | (refine wpList_load_reg rfl 54 _ rfl _ rfl 54 x _ (hr0 _) Tryd.underlying54 rfl Tryd.sizeReg ?_) | (go_at_call 74; refine (letter_any _ _ (by omega) (by omega)).mono ?_; rintro e w1 ⟨rfl, rfl⟩) | (go_at_call 73; refine (digit_any _ _ (by omega) (by omega)).mono ?_; rintro e w1 ⟨rfl, rfl⟩))
  have HA : Hid (RegAt (((w.alloc (.cells (regA x) 54)).alloc (.cells (regA reg0) 54)).alloc (.cells (regA (upd x (8 + m) (d : Int))) 54)) (w.heap.size + 1 + 1) 54 (upd x (8 + m) (d : Int))) := by
    have := RegAt.alloc ((w.alloc (.cells (regA x) 54)).alloc (.cells (regA reg0) 54)) 54 (upd x (8 + m) (d : Int))
    have h2 : RegAt (((w.alloc (.cells (regA x) 54)).alloc (.cells (regA reg0) 54)).alloc (.cells (regA (upd x (8 + m) (d : Int))) 54)) (w.heap.size + 1 + 1) 54 (upd x (8 + m) (d : Int)) := by simpa using this
    exact h2
  have HD : Hid (RegAt (((w.alloc (.cells (regA x) 54)).alloc (.cells (regA reg0) 54)).alloc (.cells (regA (upd x (8 + m) (d : Int))) 54)) (w.heap.size + 1) 54 reg0) := by
    have := (RegAt.alloc (w.alloc (.cells (regA x) 54)) 54 reg0).below ((Below.refl _ _).alloc (Nat.le_refl _) (.cells (regA (upd x (8 + m) (d : Int))) 54))
    have h2 : RegAt (((w.alloc (.cells (regA x) 54)).alloc (.cells (regA reg0) 54)).alloc (.cells (regA (upd x (8 + m) (d : Int))) 54)) (w.heap.size + 1) 54 reg0 := by simpa using this
    exact h2
  have HB : Hid (Below w.heap.size w (((w.alloc (.cells (regA x) 54)).alloc (.cells (regA reg0) 54)).alloc (.cells (regA (upd x (8 + m) (d : Int))) 54))) := (((Below.refl _ w).alloc (Nat.le_refl _) _).alloc (by simp) _).alloc (by simp; omega) _
  clear hr0 hst hxk hset z0 e1 e2 a2 a1
  generalize ((w.alloc (.cells (regA x) 54)).alloc (.cells (regA reg0) 54)).alloc (.cells (regA (upd x (8 + m) (d : Int))) 54) = W4 at HA HD HB ⊢
  by_cases hz : x (8 + m) = 0
  · have hzb : (x (8 + m) == 0) = true := by simpa using hz
    have HR : Hid ((decide (x (8 + m) ≠ 0) && decide (x (8 + m) ≠ (d : Int))) = false) := by unfold Hid; simp only [Bool.and_eq_false_iff, decide_eq_false_iff_not]; omega
    clear hz
    refine wp_region_held_drew (S := (fun w' => RegAt w' (w.heap.size + 1 + 1) 54 (upd x (8 + m) (d : Int)) ∧ (∃ q, RegAt w' (w.heap.size + 1) 54 q) ∧ Below w.heap.size w w')) (by kernel_rfl) ⟨HA.out.drew, ⟨reg0, HD.out.drew⟩, HB.out.drew⟩ (fun hHeld => ?_)
    refine takeD 0 (some 50) (.agg (regA (upd x (8 + m) (d : Int)))) rfl rfl (by kernel_rfl) (by kernel_rfl) (by kernel_rfl) (fun _ _ _ h => h) (yields_load_reg (by rfl) 54 _ rfl (w.heap.size + 1 + 1) rfl 54 (upd x (8 + m) (d : Int)) _ (fun w h => h.1) Tryd.underlying54 rfl Tryd.sizeReg) hHeld ?_
    simp only [Act.put, List.setIfInBounds_toArray, List.set_cons_zero, List.set_cons_succ]
    refine takeD 1 (some 51) (.string t) rfl rfl (by kernel_rfl) (by kernel_rfl) (by kernel_rfl) (fun _ _ _ h => h) (Or.inl ⟨by rfl, ?_⟩) hHeld ?_
    · intro w hSw
      go_simp
    simp only [Act.put, List.setIfInBounds_toArray, List.set_cons_zero, List.set_cons_succ]
    refine takeD 2 (some 52) (.int .u8 114) rfl rfl (by kernel_rfl) (by kernel_rfl) (by kernel_rfl) (fun _ _ _ h => h) (Or.inl ⟨by rfl, ?_⟩) hHeld ?_
    · intro w hSw
      go_simp
    simp only [Act.put, List.setIfInBounds_toArray, List.set_cons_zero, List.set_cons_succ]
    refine takeD 3 (some 53) (.bool false) rfl rfl (by kernel_rfl) (by kernel_rfl) (by kernel_rfl) (fun _ _ _ h => h) (Or.inl ⟨by rfl, ?_⟩) hHeld ?_
    · intro w hSw
      go_simp
    simp only [Act.put, List.setIfInBounds_toArray, List.set_cons_zero, List.set_cons_succ]
    refine takeD 4 (some 54) (.int .i64 (x (8 + m))) rfl rfl (by kernel_rfl) (by kernel_rfl) (by kernel_rfl) (fun _ _ _ h => h) (Or.inl ⟨by rfl, ?_⟩) hHeld ?_
    · intro w hSw
      go_simp
    simp only [Act.put, List.setIfInBounds_toArray, List.set_cons_zero, List.set_cons_succ]
    refine takeD 5 (some 55) (.bool true) rfl rfl (by kernel_rfl) (by kernel_rfl) (by kernel_rfl) (fun _ _ _ h => h) (Or.inl ⟨by rfl, ?_⟩) hHeld ?_
    · intro w hSw
      go_simp
    simp only [Act.put, List.setIfInBounds_toArray, List.set_cons_zero, List.set_cons_succ]
    refine takeD 6 (some 56) (.bool false) rfl rfl (by kernel_rfl) (by kernel_rfl) (by kernel_rfl) (fun _ _ _ h => h) (Or.inl ⟨by rfl, ?_⟩) hHeld ?_
    · intro w hSw
      go_simp
    simp only [Act.put, List.setIfInBounds_toArray, List.set_cons_zero, List.set_cons_succ]
    refine takeD 7 (some 57) (.bool false) rfl rfl (by kernel_rfl) (by kernel_rfl) (by kernel_rfl) (fun _ _ _ h => h) (Or.inl ⟨by rfl, ?_⟩) hHeld ?_
    · intro w hSw
      go_simp
    simp only [Act.put, List.setIfInBounds_toArray, List.set_cons_zero, List.set_cons_succ]
    refine takeD 8 (some 58) undef rfl rfl (by kernel_rfl) (by kernel_rfl) (by kernel_rfl) (fun _ _ _ h => h) (Or.inr ⟨by rfl, rfl⟩) hHeld ?_
    simp only [Act.put, List.setIfInBounds_toArray, List.set_cons_zero, List.set_cons_succ]
    refine takeD 9 (some 59) undef rfl rfl (by kernel_rfl) (by kernel_rfl) (by kernel_rfl) (fun _ _ _ h => h) (Or.inr ⟨by rfl, rfl⟩) hHeld ?_
    simp only [Act.put, List.setIfInBounds_toArray, List.set_cons_zero, List.set_cons_succ]
    refine takeD 10 (some 60) undef rfl rfl (by kernel_rfl) (by kernel_rfl) (by kernel_rfl) (fun _ _ _ h => h) (Or.inr ⟨by rfl, rfl⟩) hHeld ?_
    simp only [Act.put, List.setIfInBounds_toArray, List.set_cons_zero, List.set_cons_succ]
    refine takeD 11 (some 61) (.bool false) rfl rfl (by kernel_rfl) (by kernel_rfl) (by kernel_rfl) (fun _ _ _ h => h) (Or.inl ⟨by rfl, ?_⟩) hHeld ?_
    · intro w hSw
      go_simp
    simp only [Act.put, List.setIfInBounds_toArray, List.set_cons_zero, List.set_cons_succ]
    refine wpAnyH_ready (rs := [12]) (by kernel_rfl) (by simp) ?_
    refine AllReadyH.cons rfl (fun K hK => ?_) AllReadyH.nil
    rw [if_pos (by rfl)]
    refine wp_store_reg 54 _ _ rfl (w.heap.size + 1) (upd x (8 + m) (d : Int)) rfl rfl 54 (regA hHeld.2.1.choose) hHeld.2.1.choose_spec (regA_size _) Tryd.sizeReg ?_
    intro w2 hq ho
    have HQ := hide hq
    refine hK.out _ _ ⟨hHeld.1.only ho (by omega), ⟨_, hq⟩, hHeld.2.2.trans (ho.below (by omega))⟩ (fun hHeld => ?_)
    clear hK K hq ho
    refine wpAnyH_ready (rs := [13]) (by kernel_rfl) (by simp) ?_
    refine AllReadyH.cons rfl (fun K hK => ?_) AllReadyH.nil
    go_simp
    refine hK.out _ _ hHeld (fun hHeld => ?_)
    clear hK K
    refine wpAnyH_done (by kernel_rfl) ?_ _
    go_wp2
    exact bodyPost_ret (v := .tuple #[.agg (regA (upd x (8 + m) (d : Int))), .bool false]) (results_reg2 Tryd.results64 _ _ (w.heap.size + 1) 54 (upd x (8 + m) (d : Int)) _ _ rfl rfl HQ.out Tryd.underlying54 rfl Tryd.sizeReg) rfl ⟨by rw [HR.out], hHeld.2.2⟩
  · have hzb : (x (8 + m) == 0) = false := by simpa using hz
    by_cases hn : x (8 + m) = (d : Int)
    · have HR : Hid ((decide (x (8 + m) ≠ 0) && decide (x (8 + m) ≠ (d : Int))) = false) := by unfold Hid; simp only [Bool.and_eq_false_iff, decide_eq_false_iff_not]; omega
      have hnb : (x (8 + m) != (d : Int)) = false := by simp [hn]
      clear hn hz
      refine wp_region_held_drew (S := (fun w' => RegAt w' (w.heap.size + 1 + 1) 54 (upd x (8 + m) (d : Int)) ∧ (∃ q, RegAt w' (w.heap.size + 1) 54 q) ∧ Below w.heap.size w w')) (by kernel_rfl) ⟨HA.out.drew, ⟨reg0, HD.out.drew⟩, HB.out.drew⟩ (fun hHeld => ?_)
      refine takeD 0 (some 50) (.agg (regA (upd x (8 + m) (d : Int)))) rfl rfl (by kernel_rfl) (by kernel_rfl) (by kernel_rfl) (fun _ _ _ h => h) (yields_load_reg (by rfl) 54 _ rfl (w.heap.size + 1 + 1) rfl 54 (upd x (8 + m) (d : Int)) _ (fun w h => h.1) Tryd.underlying54 rfl Tryd.sizeReg) hHeld ?_
      simp only [Act.put, List.setIfInBounds_toArray, List.set_cons_zero, List.set_cons_succ]
      refine takeD 1 (some 51) (.string t) rfl rfl (by kernel_rfl) (by kernel_rfl) (by kernel_rfl) (fun _ _ _ h => h) (Or.inl ⟨by rfl, ?_⟩) hHeld ?_
      · intro w hSw
        go_simp
      simp only [Act.put, List.setIfInBounds_toArray, List.set_cons_zero, List.set_cons_succ]
      refine takeD 2 (some 52) (.int .u8 114) rfl rfl (by kernel_rfl) (by kernel_rfl) (by kernel_rfl) (fun _ _ _ h => h) (Or.inl ⟨by rfl, ?_⟩) hHeld ?_
      · intro w hSw
        go_simp
      simp only [Act.put, List.setIfInBounds_toArray, List.set_cons_zero, List.set_cons_succ]
      refine takeD 3 (some 53) (.bool false) rfl rfl (by kernel_rfl) (by kernel_rfl) (by kernel_rfl) (fun _ _ _ h => h) (Or.inl ⟨by rfl, ?_⟩) hHeld ?_
      · intro w hSw
        go_simp
      simp only [Act.put, List.setIfInBounds_toArray, List.set_cons_zero, List.set_cons_succ]
      refine takeD 4 (some 54) (.int .i64 (x (8 + m))) rfl rfl (by kernel_rfl) (by kernel_rfl) (by kernel_rfl) (fun _ _ _ h => h) (Or.inl ⟨by rfl, ?_⟩) hHeld ?_
      · intro w hSw
        go_simp
      simp only [Act.put, List.setIfInBounds_toArray, List.set_cons_zero, List.set_cons_succ]
      refine takeD 5 (some 55) (.bool false) rfl rfl (by kernel_rfl) (by kernel_rfl) (by kernel_rfl) (fun _ _ _ h => h) (Or.inl ⟨by rfl, ?_⟩) hHeld ?_
      · intro w hSw
        go_simp
      simp only [Act.put, List.setIfInBounds_toArray, List.set_cons_zero, List.set_cons_succ]
      refine takeD 6 (some 56) (.bool true) rfl rfl (by kernel_rfl) (by kernel_rfl) (by kernel_rfl) (fun _ _ _ h => h) (Or.inl ⟨by rfl, ?_⟩) hHeld ?_
      · intro w hSw
        go_simp
      simp only [Act.put, List.setIfInBounds_toArray, List.set_cons_zero, List.set_cons_succ]
      refine takeD 7 (some 57) (.bool true) rfl rfl (by kernel_rfl) (by kernel_rfl) (by kernel_rfl) (fun _ _ _ h => h) (Or.inl ⟨by rfl, ?_⟩) hHeld ?_
      · intro w hSw
        go_simp
      simp only [Act.put, List.setIfInBounds_toArray, List.set_cons_zero, List.set_cons_succ]
      refine takeD 8 (some 58) (.int .i64 (x (8 + m))) rfl rfl (by kernel_rfl) (by kernel_rfl) (by kernel_rfl) (fun _ _ _ h => h) (Or.inl ⟨by rfl, ?_⟩) hHeld ?_
      · intro w hSw
        go_simp
      simp only [Act.put, List.setIfInBounds_toArray, List.set_cons_zero, List.set_cons_succ]
      refine takeD 9 (some 59) (.int .i64 (d : Int)) rfl rfl (by kernel_rfl) (by kernel_rfl) (by kernel_rfl) (fun _ _ _ h => h) (Or.inl ⟨by rfl, ?_⟩) hHeld ?_
      · intro w hSw
        go_simp
      simp only [Act.put, List.setIfInBounds_toArray, List.set_cons_zero, List.set_cons_succ]
      refine takeD 10 (some 60) (.bool false) rfl rfl (by kernel_rfl) (by kernel_rfl) (by kernel_rfl) (fun _ _ _ h => h) (Or.inl ⟨by rfl, ?_⟩) hHeld ?_
      · intro w hSw
        go_simp
      simp only [Act.put, List.setIfInBounds_toArray, List.set_cons_zero, List.set_cons_succ]
      refine takeD 11 (some 61) (.bool false) rfl rfl (by kernel_rfl) (by kernel_rfl) (by kernel_rfl) (fun _ _ _ h => h) (Or.inl ⟨by rfl, ?_⟩) hHeld ?_
      · intro w hSw
        go_simp
      simp only [Act.put, List.setIfInBounds_toArray, List.set_cons_zero, List.set_cons_succ]
      refine wpAnyH_ready (rs := [12]) (by kernel_rfl) (by simp) ?_
      refine AllReadyH.cons rfl (fun K hK => ?_) AllReadyH.nil
      rw [if_pos (by rfl)]
      refine wp_store_reg 54 _ _ rfl (w.heap.size + 1) (upd x (8 + m) (d : Int)) rfl rfl 54 (regA hHeld.2.1.choose) hHeld.2.1.choose_spec (regA_size _) Tryd.sizeReg ?_
      intro w2 hq ho
      have HQ := hide hq
      refine hK.out _ _ ⟨hHeld.1.only ho (by omega), ⟨_, hq⟩, hHeld.2.2.trans (ho.below (by omega))⟩ (fun hHeld => ?_)
      clear hK K hq ho
      refine wpAnyH_ready (rs := [13]) (by kernel_rfl) (by simp) ?_
      refine AllReadyH.cons rfl (fun K hK => ?_) AllReadyH.nil
      go_simp
      refine hK.out _ _ hHeld (fun hHeld => ?_)
      clear hK K
      refine wpAnyH_done (by kernel_rfl) ?_ _
      go_wp2
      exact bodyPost_ret (v := .tuple #[.agg (regA (upd x (8 + m) (d : Int))), .bool false]) (results_reg2 Tryd.results64 _ _ (w.heap.size + 1) 54 (upd x (8 + m) (d : Int)) _ _ rfl rfl HQ.out Tryd.underlying54 rfl Tryd.sizeReg) rfl ⟨by rw [HR.out], hHeld.2.2⟩
    · have HR : Hid ((decide (x (8 + m) ≠ 0) && decide (x (8 + m) ≠ (d : Int))) = true) := by unfold Hid; simp only [Bool.and_eq_true, decide_eq_true_eq]; omega
      have hnb : (x (8 + m) != (d : Int)) = true := by simp [hn]
      clear hn hz
      refine wp_region_held_drew (S := (fun w' => RegAt w' (w.heap.size + 1 + 1) 54 (upd x (8 + m) (d : Int)) ∧ (∃ q, RegAt w' (w.heap.size + 1) 54 q) ∧ Below w.heap.size w w')) (by kernel_rfl) ⟨HA.out.drew, ⟨reg0, HD.out.drew⟩, HB.out.drew⟩ (fun hHeld => ?_)
      refine takeD 0 (some 50) (.agg (regA (upd x (8 + m) (d : Int)))) rfl rfl (by kernel_rfl) (by kernel_rfl) (by kernel_rfl) (fun _ _ _ h => h) (yields_load_reg (by rfl) 54 _ rfl (w.heap.size + 1 + 1) rfl 54 (upd x (8 + m) (d : Int)) _ (fun w h => h.1) Tryd.underlying54 rfl Tryd.sizeReg) hHeld ?_
      simp only [Act.put, List.setIfInBounds_toArray, List.set_cons_zero, List.set_cons_succ]
      refine takeD 1 (some 51) (.string t) rfl rfl (by kernel_rfl) (by kernel_rfl) (by kernel_rfl) (fun _ _ _ h => h) (Or.inl ⟨by rfl, ?_⟩) hHeld ?_
      · intro w hSw
        go_simp
      simp only [Act.put, List.setIfInBounds_toArray, List.set_cons_zero, List.set_cons_succ]
      refine takeD 2 (some 52) (.int .u8 114) rfl rfl (by kernel_rfl) (by kernel_rfl) (by kernel_rfl) (fun _ _ _ h => h) (Or.inl ⟨by rfl, ?_⟩) hHeld ?_
      · intro w hSw
        go_simp
      simp only [Act.put, List.setIfInBounds_toArray, List.set_cons_zero, List.set_cons_succ]
      refine takeD 3 (some 53) (.bool false) rfl rfl (by kernel_rfl) (by kernel_rfl) (by kernel_rfl) (fun _ _ _ h => h) (Or.inl ⟨by rfl, ?_⟩) hHeld ?_
      · intro w hSw
        go_simp
      simp only [Act.put, List.setIfInBounds_toArray, List.set_cons_zero, List.set_cons_succ]
      refine takeD 4 (some 54) (.int .i64 (x (8 + m))) rfl rfl (by kernel_rfl) (by kernel_rfl) (by kernel_rfl) (fun _ _ _ h => h) (Or.inl ⟨by rfl, ?_⟩) hHeld ?_
      · intro w hSw
        go_simp
      simp only [Act.put, List.setIfInBounds_toArray, List.set_cons_zero, List.set_cons_succ]
      refine takeD 5 (some 55) (.bool false) rfl rfl (by kernel_rfl) (by kernel_rfl) (by kernel_rfl) (fun _ _ _ h => h) (Or.inl ⟨by rfl, ?_⟩) hHeld ?_
      · intro w hSw
        go_simp
      simp only [Act.put, List.setIfInBounds_toArray, List.set_cons_zero, List.set_cons_succ]
      refine takeD 6 (some 56) (.bool true) rfl rfl (by kernel_rfl) (by kernel_rfl) (by kernel_rfl) (fun _ _ _ h => h) (Or.inl ⟨by rfl, ?_⟩) hHeld ?_
      · intro w hSw
        go_simp
      simp only [Act.put, List.setIfInBounds_toArray, List.set_cons_zero, List.set_cons_succ]
      refine takeD 7 (some 57) (.bool true) rfl rfl (by kernel_rfl) (by kernel_rfl) (by kernel_rfl) (fun _ _ _ h => h) (Or.inl ⟨by rfl, ?_⟩) hHeld ?_
      · intro w hSw
        go_simp
      simp only [Act.put, List.setIfInBounds_toArray, List.set_cons_zero, List.set_cons_succ]
      refine takeD 8 (some 58) (.int .i64 (x (8 + m))) rfl rfl (by kernel_rfl) (by kernel_rfl) (by kernel_rfl) (fun _ _ _ h => h) (Or.inl ⟨by rfl, ?_⟩) hHeld ?_
      · intro w hSw
        go_simp
      simp only [Act.put, List.setIfInBounds_toArray, List.set_cons_zero, List.set_cons_succ]
      refine takeD 9 (some 59) (.int .i64 (d : Int)) rfl rfl (by kernel_rfl) (by kernel_rfl) (by kernel_rfl) (fun _ _ _ h => h) (Or.inl ⟨by rfl, ?_⟩) hHeld ?_
      · intro w hSw
        go_simp
      simp only [Act.put, List.setIfInBounds_toArray, List.set_cons_zero, List.set_cons_succ]
      refine takeD 10 (some 60) (.bool true) rfl rfl (by kernel_rfl) (by kernel_rfl) (by kernel_rfl) (fun _ _ _ h => h) (Or.inl ⟨by rfl, ?_⟩) hHeld ?_
      · intro w hSw
        go_simp
      simp only [Act.put, List.setIfInBounds_toArray, List.set_cons_zero, List.set_cons_succ]
      refine takeD 11 (some 61) (.bool true) rfl rfl (by kernel_rfl) (by kernel_rfl) (by kernel_rfl) (fun _ _ _ h => h) (Or.inl ⟨by rfl, ?_⟩) hHeld ?_
      · intro w hSw
        go_simp
      simp only [Act.put, List.setIfInBounds_toArray, List.set_cons_zero, List.set_cons_succ]
      refine wpAnyH_ready (rs := [12]) (by kernel_rfl) (by simp) ?_
      refine AllReadyH.cons rfl (fun K hK => ?_) AllReadyH.nil
      rw [if_pos (by rfl)]
      refine wp_store_reg 54 _ _ rfl (w.heap.size + 1) (upd x (8 + m) (d : Int)) rfl rfl 54 (regA hHeld.2.1.choose) hHeld.2.1.choose_spec (regA_size _) Tryd.sizeReg ?_
      intro w2 hq ho
      have HQ := hide hq
      refine hK.out _ _ ⟨hHeld.1.only ho (by omega), ⟨_, hq⟩, hHeld.2.2.trans (ho.below (by omega))⟩ (fun hHeld => ?_)
      clear hK K hq ho
      refine wpAnyH_ready (rs := [13]) (by kernel_rfl) (by simp) ?_
      refine AllReadyH.cons rfl (fun K hK => ?_) AllReadyH.nil
      go_simp
      refine hK.out _ _ hHeld (fun hHeld => ?_)
      clear hK K
      refine wpAnyH_done (by kernel_rfl) ?_ _
      go_wp2
      exact bodyPost_ret (v := .tuple #[.agg (regA (upd x (8 + m) (d : Int))), .bool true]) (results_reg2 Tryd.results64 _ _ (w.heap.size + 1) 54 (upd x (8 + m) (d : Int)) _ _ rfl rfl HQ.out Tryd.underlying54 rfl Tryd.sizeReg) rfl ⟨by rw [HR.out], hHeld.2.2⟩

end Go.Proofs.YtcfjhbcpjpgodaaDoor
namespace Go.Proofs.YtcfjhbcpjpgodaaDoor
open Go.RowKit

/-- The registry behind a record, and may it be? -/
def nextR (x : Nat → Int) (c0 c1 c2 : Int) : (Nat → Int) × Bool :=
  if c0 = 118 then (upd x (c1 - 48).toNat (c2 - 48), decide (0 < sumTo (upd x (c1 - 48).toNat (c2 - 48)) 8) && decide (x (c1 - 48).toNat ≠ c2 - 48))
  else if c0 = 108 then (upd x (8 + (c1 - 97).toNat) 0, decide (x (8 + (c1 - 97).toNat) ≠ 0) && decide (x (8 + (c1 - 97).toNat) ≠ 0))
  else if c0 = 106 then (upd x (8 + (c1 - 97).toNat) (c2 - 48), decide (x (8 + (c1 - 97).toNat) = 0) && decide (x (8 + (c1 - 97).toNat) ≠ c2 - 48))
  else (upd x (8 + (c1 - 97).toNat) (c2 - 48), decide (x (8 + (c1 - 97).toNat) ≠ 0) && decide (x (8 + (c1 - 97).toNat) ≠ c2 - 48))

def nextT (x : Nat → Int) (t : ByteArray) : (Nat → Int) × Bool := nextR x (byt t 0) (byt t 1) (byt t 2)

/-- Powers and roles are 0 to 9. -/
def Dom (x : Nat → Int) : Prop := ∀ i, 0 ≤ x i ∧ x i ≤ 9

theorem Dom.set {x : Nat → Int} (h : Dom x) (k : Nat) (v : Int) (h0 : 0 ≤ v) (h1 : v ≤ 9) : Dom (upd x k v) := by
  intro i
  unfold upd
  split
  · exact ⟨h0, h1⟩
  · exact h i

theorem Dom.next {x : Nat → Int} {t : ByteArray} (h : Dom x) (hf : formB t = true) : Dom (nextT x t).1 := by
  have hf' := of_decide_eq_true hf
  unfold nextT nextR
  split
  · exact h.set _ _ (by omega) (by omega)
  · split
    · exact h.set _ _ (by omega) (by omega)
    · split
      · exact h.set _ _ (by omega) (by omega)
      · exact h.set _ _ (by omega) (by omega)

theorem next_any (x : Nat → Int) (t : ByteArray) (w : World) (hx : Dom x) (hf : formB t = true) :
    Calls Tryd.prog 64 #[.agg (regA x), .string t] w fun e w' => e = .returned (.tuple #[.agg (regA (nextT x t).1), .bool (nextT x t).2]) ∧ Below w.heap.size w w' := by
  have hf' := of_decide_eq_true hf
  have i0 := index_byt t 0 (by omega)
  have i1 := index_byt t 1 (by omega)
  unfold nextT nextR
  rcases hf' with ⟨hn, h0, h1, h2⟩ | ⟨hn, h0, h1, h2, h3, h4⟩ | ⟨hn, h0, h1, h2, h3, h4⟩
  · rw [h0] at i0 ⊢
    rw [if_neg (by omega), if_pos rfl]
    have e1 : byt t 1 = (((byt t 1 - 97).toNat : Nat) : Int) + 97 := by omega
    exact next_l x t (byt t 1 - 97).toNat w (by omega) i0 (by rw [← e1]; exact i1)
  · have i2 := index_byt t 2 (by omega)
    have e1 : byt t 1 = (((byt t 1 - 97).toNat : Nat) : Int) + 97 := by omega
    have e2 : byt t 2 = (((byt t 2 - 48).toNat : Nat) : Int) + 48 := by omega
    have e3 : byt t 2 - 48 = (((byt t 2 - 48).toNat : Nat) : Int) := by omega
    rcases h0 with h0 | h0
    · rw [h0] at i0 ⊢
      rw [if_neg (by omega), if_neg (by omega), if_pos rfl, e3]
      exact next_j x t (byt t 1 - 97).toNat (byt t 2 - 48).toNat w (by omega) i0 (by rw [← e1]; exact i1) (by omega) (by rw [← e2]; exact i2)
    · rw [h0] at i0 ⊢
      rw [if_neg (by omega), if_neg (by omega), if_neg (by omega), e3]
      exact next_r x t (byt t 1 - 97).toNat (byt t 2 - 48).toNat w (by omega) i0 (by rw [← e1]; exact i1) (by omega) (by rw [← e2]; exact i2)
  · have i2 := index_byt t 2 (by omega)
    have e1 : byt t 1 = (((byt t 1 - 48).toNat : Nat) : Int) + 48 := by omega
    have e2 : byt t 2 = (((byt t 2 - 48).toNat : Nat) : Int) + 48 := by omega
    have e3 : byt t 2 - 48 = (((byt t 2 - 48).toNat : Nat) : Int) := by omega
    rw [h0] at i0 ⊢
    rw [if_pos rfl, e3]
    exact next_v x t (byt t 1 - 48).toNat (byt t 2 - 48).toNat w (fun i _ => hx i) (by omega) (by omega) i0 (by rw [← e1]; exact i1) (by rw [← e2]; exact i2)

end Go.Proofs.YtcfjhbcpjpgodaaDoor
