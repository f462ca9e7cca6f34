/- Proved here: whether a record may be, by the program. -/
import Derived.Test.YtcfjhbcpjpgodaaDoorProgWith
import Derived.Test.YtcfjhbcpjpgodaaDoorProgRead
import Derived.BigQuiet
namespace Go.Proofs.YtcfjhbcpjpgodaaDoor
open Go.RowKit

theorem row_lt {w : World} {g : Nat} {o : Obj} (h : w.heap[g]? = some o) : g < w.heap.size := by
  rcases Nat.lt_or_ge g w.heap.size with h' | h'
  · exact h'
  · simp [Array.getElem?_eq_none h'] at h
theorem row_range {w : World} {g : Nat} {l : List Value} {t : TypeId} (h : w.heap[g]? = some (.cells l.toArray t (0, 0))) : w.rangeAt g 0 l := fun j v hv => by
  rw [Nat.zero_add, cell_of_row w g j _ _ _ h, List.getElem?_toArray]
  exact hv

/-- May a record be, by its kind, whom it speaks of, and its number? -/
def mayB (x : Nat → Int) (kind : Int) (i : Nat) (num : Int) : Bool :=
  if kind = 118 then decide (x i ≠ num) && decide (0 < sumTo (upd x i num) 8)
  else if kind = 106 then decide (x (8 + i) = 0)
  else if kind = 108 then decide (x (8 + i) ≠ 0)
  else decide (x (8 + i) ≠ 0) && decide (x (8 + i) ≠ num)

set_option maxRecDepth 100000 in
set_option maxHeartbeats 800000 in
theorem may_j (x : Nat → Int) (i : Nat) (num : Int) (w : World) (hi : i < 26) :
    Calls Tryd.prog 61 #[.agg (regA x), .agg #[.int .u8 106, .int .i64 (i : Int), .int .i64 num]] w fun e w' => e = .returned (.bool (mayB x 106 i num)) ∧ Below w.heap.size w w' := by
  obtain ⟨W, hW⟩ : ∃ W, W = (w.alloc (.cells (regA x) 92)).alloc (.cells #[.int .u8 106, .int .i64 (i : Int), .int .i64 num] 125) := ⟨_, rfl⟩
  have HR : Hid (RegAt W w.heap.size 92 x) := by
    unfold Hid
    rw [hW]
    exact (RegAt.alloc w _ x).below ((Below.refl _ _).alloc (Nat.le_refl _) _)
  have hrow : W.heap[w.heap.size + 1]? = some (.cells #[.int .u8 106, .int .i64 (i : Int), .int .i64 num] 125 (0, 0)) := by
    have h := heap_alloc_new (w.alloc (.cells (regA x) 92)) (.cells #[.int .u8 106, .int .i64 (i : Int), .int .i64 num] 125)
    have e1 : (w.alloc (.cells (regA x) 92)).heap.size = w.heap.size + 1 := by simp
    rw [e1] at h
    rw [hW]
    exact h
  have hk0 := cell_of_row W (w.heap.size + 1) 0 _ _ _ hrow
  have hk1 := cell_of_row W (w.heap.size + 1) 1 _ _ _ hrow
  have hk2 := cell_of_row W (w.heap.size + 1) 2 _ _ _ hrow
  simp only [List.getElem?_toArray, List.getElem?_cons_zero, List.getElem?_cons_succ] at hk0 hk1 hk2
  have HROW := hide hrow
  have HB : Hid (Below w.heap.size w W) := by
    unfold Hid
    rw [hW]
    exact ((Below.refl _ w).alloc (Nat.le_refl _) _).alloc (by simp) _
  have hW2 := hW.symm
  clear hrow hW
  have hi8 : (i : Int) < 26 := by omega
  have hc := HR.out.cell (8 + i) (by omega)
  by_cases hz : x (8 + i) = 0
  · have HF : Hid (mayB x 106 i num = true) := by unfold Hid mayB; simp [hz]
    rw [hz] at hc
    clear hz hi
    go_enter Tryd.func61, Tryd.ntmps61
    go_wp2
    go_ret
    exact ⟨ret_b HF.out.symm, HB.out⟩
  · have HF : Hid (mayB x 106 i num = false) := by unfold Hid mayB; simp [hz]
    have hzb : (x (8 + i) == 0) = false := by simpa using hz
    have hzn : (x (8 + i) != 0) = true := by simpa using hz
    clear hz hi
    go_enter Tryd.func61, Tryd.ntmps61
    go_wp2
    go_ret
    exact ⟨ret_b HF.out.symm, HB.out⟩

set_option maxRecDepth 100000 in
set_option maxHeartbeats 800000 in
theorem may_l (x : Nat → Int) (i : Nat) (num : Int) (w : World) (hi : i < 26) :
    Calls Tryd.prog 61 #[.agg (regA x), .agg #[.int .u8 108, .int .i64 (i : Int), .int .i64 num]] w fun e w' => e = .returned (.bool (mayB x 108 i num)) ∧ Below w.heap.size w w' := by
  obtain ⟨W, hW⟩ : ∃ W, W = (w.alloc (.cells (regA x) 92)).alloc (.cells #[.int .u8 108, .int .i64 (i : Int), .int .i64 num] 125) := ⟨_, rfl⟩
  have HR : Hid (RegAt W w.heap.size 92 x) := by
    unfold Hid
    rw [hW]
    exact (RegAt.alloc w _ x).below ((Below.refl _ _).alloc (Nat.le_refl _) _)
  have hrow : W.heap[w.heap.size + 1]? = some (.cells #[.int .u8 108, .int .i64 (i : Int), .int .i64 num] 125 (0, 0)) := by
    have h := heap_alloc_new (w.alloc (.cells (regA x) 92)) (.cells #[.int .u8 108, .int .i64 (i : Int), .int .i64 num] 125)
    have e1 : (w.alloc (.cells (regA x) 92)).heap.size = w.heap.size + 1 := by simp
    rw [e1] at h
    rw [hW]
    exact h
  have hk0 := cell_of_row W (w.heap.size + 1) 0 _ _ _ hrow
  have hk1 := cell_of_row W (w.heap.size + 1) 1 _ _ _ hrow
  have hk2 := cell_of_row W (w.heap.size + 1) 2 _ _ _ hrow
  simp only [List.getElem?_toArray, List.getElem?_cons_zero, List.getElem?_cons_succ] at hk0 hk1 hk2
  have HROW := hide hrow
  have HB : Hid (Below w.heap.size w W) := by
    unfold Hid
    rw [hW]
    exact ((Below.refl _ w).alloc (Nat.le_refl _) _).alloc (by simp) _
  have hW2 := hW.symm
  clear hrow hW
  have hi8 : (i : Int) < 26 := by omega
  have hc := HR.out.cell (8 + i) (by omega)
  by_cases hz : x (8 + i) = 0
  · have HF : Hid (mayB x 108 i num = false) := by unfold Hid mayB; simp [hz]
    rw [hz] at hc
    clear hz hi
    go_enter Tryd.func61, Tryd.ntmps61
    go_wp2
    go_ret
    exact ⟨ret_b HF.out.symm, HB.out⟩
  · have HF : Hid (mayB x 108 i num = true) := by unfold Hid mayB; simp [hz]
    have hzb : (x (8 + i) == 0) = false := by simpa using hz
    have hzn : (x (8 + i) != 0) = true := by simpa using hz
    clear hz hi
    go_enter Tryd.func61, Tryd.ntmps61
    go_wp2
    go_ret
    exact ⟨ret_b HF.out.symm, HB.out⟩

set_option maxRecDepth 100000 in
set_option maxHeartbeats 800000 in
theorem may_r (x : Nat → Int) (i : Nat) (num : Int) (w : World) (hi : i < 26) :
    Calls Tryd.prog 61 #[.agg (regA x), .agg #[.int .u8 114, .int .i64 (i : Int), .int .i64 num]] w fun e w' => e = .returned (.bool (mayB x 114 i num)) ∧ Below w.heap.size w w' := by
  obtain ⟨W, hW⟩ : ∃ W, W = (w.alloc (.cells (regA x) 92)).alloc (.cells #[.int .u8 114, .int .i64 (i : Int), .int .i64 num] 125) := ⟨_, rfl⟩
  have HR : Hid (RegAt W w.heap.size 92 x) := by
    unfold Hid
    rw [hW]
    exact (RegAt.alloc w _ x).below ((Below.refl _ _).alloc (Nat.le_refl _) _)
  have hrow : W.heap[w.heap.size + 1]? = some (.cells #[.int .u8 114, .int .i64 (i : Int), .int .i64 num] 125 (0, 0)) := by
    have h := heap_alloc_new (w.alloc (.cells (regA x) 92)) (.cells #[.int .u8 114, .int .i64 (i : Int), .int .i64 num] 125)
    have e1 : (w.alloc (.cells (regA x) 92)).heap.size = w.heap.size + 1 := by simp
    rw [e1] at h
    rw [hW]
    exact h
  have hk0 := cell_of_row W (w.heap.size + 1) 0 _ _ _ hrow
  have hk1 := cell_of_row W (w.heap.size + 1) 1 _ _ _ hrow
  have hk2 := cell_of_row W (w.heap.size + 1) 2 _ _ _ hrow
  simp only [List.getElem?_toArray, List.getElem?_cons_zero, List.getElem?_cons_succ] at hk0 hk1 hk2
  have HROW := hide hrow
  have HB : Hid (Below w.heap.size w W) := by
    unfold Hid
    rw [hW]
    exact ((Below.refl _ w).alloc (Nat.le_refl _) _).alloc (by simp) _
  have hW2 := hW.symm
  clear hrow hW
  have hi8 : (i : Int) < 26 := by omega
  have hc := HR.out.cell (8 + i) (by omega)
  by_cases hz : x (8 + i) = 0
  · have HF : Hid (mayB x 114 i num = false) := by unfold Hid mayB; simp [hz]
    rw [hz] at hc
    clear hz hi
    go_enter Tryd.func61, Tryd.ntmps61
    go_wp2
    go_quiet (fail)
    go_wp2
    go_ret
    exact ⟨ret_b HF.out.symm, below_drewN HB.out _⟩
  · have hzb : (x (8 + i) == 0) = false := by simpa using hz
    have hzn : (x (8 + i) != 0) = true := by simpa using hz
    by_cases hn : x (8 + i) = num
    · have HF : Hid (mayB x 114 i num = false) := by unfold Hid mayB; simp [hn]
      have hnb : (x (8 + i) == num) = true := by simpa using hn
      have hnn : (x (8 + i) != num) = false := by simpa using hn
      clear hz hi hn
      go_enter Tryd.func61, Tryd.ntmps61
      go_wp2
      go_quiet (fail)
      go_wp2
      go_ret
      exact ⟨ret_b HF.out.symm, below_drewN HB.out _⟩
    · have HF : Hid (mayB x 114 i num = true) := by unfold Hid mayB; simp [hz, hn]
      have hnb : (x (8 + i) == num) = false := by simpa using hn
      have hnn : (x (8 + i) != num) = true := by simpa using hn
      clear hz hi hn
      go_enter Tryd.func61, Tryd.ntmps61
      go_wp2
      go_quiet (fail)
      go_wp2
      go_ret
      exact ⟨ret_b HF.out.symm, below_drewN HB.out _⟩

set_option maxRecDepth 100000 in
set_option maxHeartbeats 800000 in
theorem may_v (x : Nat → Int) (i : Nat) (num : Int) (w : World) (hx : Dom x) (hi : i < 8) (hn0 : 0 ≤ num) (hn9 : num ≤ 9) :
    Calls Tryd.prog 61 #[.agg (regA x), .agg #[.int .u8 118, .int .i64 (i : Int), .int .i64 num]] w fun e w' => e = .returned (.bool (mayB x 118 i num)) ∧ Below w.heap.size w w' := by
  obtain ⟨W, hW⟩ : ∃ W, W = (w.alloc (.cells (regA x) 92)).alloc (.cells #[.int .u8 118, .int .i64 (i : Int), .int .i64 num] 125) := ⟨_, rfl⟩
  have HR : Hid (RegAt W w.heap.size 92 x) := by
    unfold Hid
    rw [hW]
    exact (RegAt.alloc w _ x).below ((Below.refl _ _).alloc (Nat.le_refl _) _)
  have hrow : W.heap[w.heap.size + 1]? = some (.cells #[.int .u8 118, .int .i64 (i : Int), .int .i64 num] 125 (0, 0)) := by
    have h := heap_alloc_new (w.alloc (.cells (regA x) 92)) (.cells #[.int .u8 118, .int .i64 (i : Int), .int .i64 num] 125)
    have e1 : (w.alloc (.cells (regA x) 92)).heap.size = w.heap.size + 1 := by simp
    rw [e1] at h
    rw [hW]
    exact h
  have hk0 := cell_of_row W (w.heap.size + 1) 0 _ _ _ hrow
  have hk1 := cell_of_row W (w.heap.size + 1) 1 _ _ _ hrow
  have hk2 := cell_of_row W (w.heap.size + 1) 2 _ _ _ hrow
  simp only [List.getElem?_toArray, List.getElem?_cons_zero, List.getElem?_cons_succ] at hk0 hk1 hk2
  have HROW := hide hrow
  have HB : Hid (Below w.heap.size w W) := by
    unfold Hid
    rw [hW]
    exact ((Below.refl _ w).alloc (Nat.le_refl _) _).alloc (by simp) _
  have hW2 := hW.symm
  clear hrow hW
  have hi8 : (i : Int) < 8 := by omega
  have HX := hide hx
  have HY : Hid (∀ j, j < 8 → 0 ≤ upd x i num j ∧ upd x i num j ≤ 9) := fun j _ => (hx.set i num hn0 hn9) j
  clear hx hn0 hn9
  by_cases hn : x i = num
  · have HF : Hid (mayB x 118 i num = false) := by unfold Hid mayB; simp [hn]
    have hnb : (x i == num) = true := by simpa using hn
    have hnn : (x i != num) = false := by simpa using hn
    clear hn
    go_enter Tryd.func61, Tryd.ntmps61
    go_wp2_with fail
    refine wp_region_held_drew (S := fun W' => RegAt W' w.heap.size 92 x ∧ W'.heap[w.heap.size + 1]? = some (.cells #[.int .u8 118, .int .i64 (i : Int), .int .i64 num] 125 (0, 0)) ∧ Below w.heap.size w W') (by kernel_rfl) ⟨HR.out.drew, HROW.out, HB.out.drew⟩ (fun hHeld => ?_)
    refine takeD 0 (some 43) (.pointer (some ⟨w.heap.size + 1, 1, none⟩)) rfl rfl (by kernel_rfl) (by kernel_rfl) (by kernel_rfl) (fun _ _ _ h => h) (Or.inl ⟨by rfl, ?_⟩) hHeld ?_
    · intro w hSw
      go_simp
    simp only [Act.put, List.setIfInBounds_toArray, List.set_cons_zero, List.set_cons_succ]
    refine takeD 1 (some 44) (.int .i64 (i : Int)) rfl rfl (by kernel_rfl) (by kernel_rfl) (by kernel_rfl) (fun _ _ _ h => h) (Or.inl ⟨by rfl, ?_⟩) hHeld ?_
    · intro w hSw
      have hcx := cell_of_row _ _ 1 _ _ _ hSw.2.1
      simp only [List.getElem?_toArray, List.getElem?_cons_zero, List.getElem?_cons_succ] at hcx
      go_simp
    simp only [Act.put, List.setIfInBounds_toArray, List.set_cons_zero, List.set_cons_succ]
    refine takeD 2 (some 45) (.pointer (some ⟨w.heap.size, 0, none⟩)) rfl rfl (by kernel_rfl) (by kernel_rfl) (by kernel_rfl) (fun _ _ _ h => h) (Or.inl ⟨by rfl, ?_⟩) hHeld ?_
    · intro w hSw
      go_simp
    simp only [Act.put, List.setIfInBounds_toArray, List.set_cons_zero, List.set_cons_succ]
    refine takeD 3 (some 46) (.pointer (some ⟨w.heap.size, i, none⟩)) rfl rfl (by kernel_rfl) (by kernel_rfl) (by kernel_rfl) (fun _ _ _ h => h) (Or.inl ⟨by rfl, ?_⟩) hHeld ?_
    · intro w hSw
      go_simp
    simp only [Act.put, List.setIfInBounds_toArray, List.set_cons_zero, List.set_cons_succ]
    refine takeD 4 (some 47) (.int .i64 (x i)) rfl rfl (by kernel_rfl) (by kernel_rfl) (by kernel_rfl) (fun _ _ _ h => h) (Or.inl ⟨by rfl, ?_⟩) hHeld ?_
    · intro w hSw
      have hcx := hSw.1.cell i (by omega)
      go_simp
    simp only [Act.put, List.setIfInBounds_toArray, List.set_cons_zero, List.set_cons_succ]
    refine takeD 5 (some 48) (.pointer (some ⟨w.heap.size + 1, 2, none⟩)) rfl rfl (by kernel_rfl) (by kernel_rfl) (by kernel_rfl) (fun _ _ _ h => h) (Or.inl ⟨by rfl, ?_⟩) hHeld ?_
    · intro w hSw
      go_simp
    simp only [Act.put, List.setIfInBounds_toArray, List.set_cons_zero, List.set_cons_succ]
    refine takeD 6 (some 49) (.int .i64 num) rfl rfl (by kernel_rfl) (by kernel_rfl) (by kernel_rfl) (fun _ _ _ h => h) (Or.inl ⟨by rfl, ?_⟩) hHeld ?_
    · intro w hSw
      have hcx := cell_of_row _ _ 2 _ _ _ hSw.2.1
      simp only [List.getElem?_toArray, List.getElem?_cons_zero, List.getElem?_cons_succ] at hcx
      go_simp
    simp only [Act.put, List.setIfInBounds_toArray, List.set_cons_zero, List.set_cons_succ]
    refine takeD 7 (some 50) (.bool false) rfl rfl (by kernel_rfl) (by kernel_rfl) (by kernel_rfl) (fun _ _ _ h => h) (Or.inl ⟨by rfl, ?_⟩) hHeld ?_
    · intro w hSw
      go_simp
    simp only [Act.put, List.setIfInBounds_toArray, List.set_cons_zero, List.set_cons_succ]
    refine takeD 8 (some 51) (.bool false) rfl rfl (by kernel_rfl) (by kernel_rfl) (by kernel_rfl) (fun _ _ _ h => h) (Or.inl ⟨by rfl, ?_⟩) hHeld ?_
    · intro w hSw
      go_simp
    simp only [Act.put, List.setIfInBounds_toArray, List.set_cons_zero, List.set_cons_succ]
    refine takeD 9 (some 52) undef rfl rfl (by kernel_rfl) (by kernel_rfl) (by kernel_rfl) (fun _ _ _ h => h) (Or.inr ⟨by rfl, rfl⟩) hHeld ?_
    simp only [Act.put, List.setIfInBounds_toArray, List.set_cons_zero, List.set_cons_succ]
    refine takeD 10 (some 53) undef rfl rfl (by kernel_rfl) (by kernel_rfl) (by kernel_rfl) (fun _ _ _ h => h) (Or.inr ⟨by rfl, rfl⟩) hHeld ?_
    simp only [Act.put, List.setIfInBounds_toArray, List.set_cons_zero, List.set_cons_succ]
    refine takeD 11 (some 54) undef rfl rfl (by kernel_rfl) (by kernel_rfl) (by kernel_rfl) (fun _ _ _ h => h) (Or.inr ⟨by rfl, rfl⟩) hHeld ?_
    simp only [Act.put, List.setIfInBounds_toArray, List.set_cons_zero, List.set_cons_succ]
    refine takeD 12 (some 55) undef rfl rfl (by kernel_rfl) (by kernel_rfl) (by kernel_rfl) (fun _ _ _ h => h) (Or.inr ⟨by rfl, rfl⟩) hHeld ?_
    simp only [Act.put, List.setIfInBounds_toArray, List.set_cons_zero, List.set_cons_succ]
    refine takeD 13 (some 56) undef rfl rfl (by kernel_rfl) (by kernel_rfl) (by kernel_rfl) (fun _ _ _ h => h) (Or.inr ⟨by rfl, rfl⟩) hHeld ?_
    simp only [Act.put, List.setIfInBounds_toArray, List.set_cons_zero, List.set_cons_succ]
    refine takeD 14 (some 57) (.bool false) rfl rfl (by kernel_rfl) (by kernel_rfl) (by kernel_rfl) (fun _ _ _ h => h) (Or.inl ⟨by rfl, ?_⟩) hHeld ?_
    · intro w hSw
      go_simp
    simp only [Act.put, List.setIfInBounds_toArray, List.set_cons_zero, List.set_cons_succ]
    refine wpAnyH_ready (rs := [15]) (by kernel_rfl) (by simp) ?_
    refine AllReadyH.cons rfl (fun K hK => ?_) AllReadyH.nil
    go_simp
    refine hK.out _ _ hHeld (fun hHeld => ?_)
    clear hK K
    refine wpAnyH_done (by kernel_rfl) ?_ _
    go_wp2
    go_ret
    exact ⟨ret_b HF.out.symm, hHeld.2.2⟩
  · by_cases hs : 0 < sumTo (upd x i num) 8
    · have HF : Hid (mayB x 118 i num = true) := by unfold Hid mayB; simp [hn, hs]
      have hnb : (x i == num) = false := by simpa using hn
      have hnn : (x i != num) = true := by simpa using hn
      clear hn
      go_enter Tryd.func61, Tryd.ntmps61
      go_wp2_with fail
      refine wp_region_held_drew (S := fun W' => RegAt W' w.heap.size 92 x ∧ W'.heap[w.heap.size + 1]? = some (.cells #[.int .u8 118, .int .i64 (i : Int), .int .i64 num] 125 (0, 0)) ∧ Below w.heap.size w W') (by kernel_rfl) ⟨HR.out.drew, HROW.out, HB.out.drew⟩ (fun hHeld => ?_)
      refine takeD 0 (some 43) (.pointer (some ⟨w.heap.size + 1, 1, none⟩)) rfl rfl (by kernel_rfl) (by kernel_rfl) (by kernel_rfl) (fun _ _ _ h => h) (Or.inl ⟨by rfl, ?_⟩) hHeld ?_
      · intro w hSw
        go_simp
      simp only [Act.put, List.setIfInBounds_toArray, List.set_cons_zero, List.set_cons_succ]
      refine takeD 1 (some 44) (.int .i64 (i : Int)) rfl rfl (by kernel_rfl) (by kernel_rfl) (by kernel_rfl) (fun _ _ _ h => h) (Or.inl ⟨by rfl, ?_⟩) hHeld ?_
      · intro w hSw
        have hcx := cell_of_row _ _ 1 _ _ _ hSw.2.1
        simp only [List.getElem?_toArray, List.getElem?_cons_zero, List.getElem?_cons_succ] at hcx
        go_simp
      simp only [Act.put, List.setIfInBounds_toArray, List.set_cons_zero, List.set_cons_succ]
      refine takeD 2 (some 45) (.pointer (some ⟨w.heap.size, 0, none⟩)) rfl rfl (by kernel_rfl) (by kernel_rfl) (by kernel_rfl) (fun _ _ _ h => h) (Or.inl ⟨by rfl, ?_⟩) hHeld ?_
      · intro w hSw
        go_simp
      simp only [Act.put, List.setIfInBounds_toArray, List.set_cons_zero, List.set_cons_succ]
      refine takeD 3 (some 46) (.pointer (some ⟨w.heap.size, i, none⟩)) rfl rfl (by kernel_rfl) (by kernel_rfl) (by kernel_rfl) (fun _ _ _ h => h) (Or.inl ⟨by rfl, ?_⟩) hHeld ?_
      · intro w hSw
        go_simp
      simp only [Act.put, List.setIfInBounds_toArray, List.set_cons_zero, List.set_cons_succ]
      refine takeD 4 (some 47) (.int .i64 (x i)) rfl rfl (by kernel_rfl) (by kernel_rfl) (by kernel_rfl) (fun _ _ _ h => h) (Or.inl ⟨by rfl, ?_⟩) hHeld ?_
      · intro w hSw
        have hcx := hSw.1.cell i (by omega)
        go_simp
      simp only [Act.put, List.setIfInBounds_toArray, List.set_cons_zero, List.set_cons_succ]
      refine takeD 5 (some 48) (.pointer (some ⟨w.heap.size + 1, 2, none⟩)) rfl rfl (by kernel_rfl) (by kernel_rfl) (by kernel_rfl) (fun _ _ _ h => h) (Or.inl ⟨by rfl, ?_⟩) hHeld ?_
      · intro w hSw
        go_simp
      simp only [Act.put, List.setIfInBounds_toArray, List.set_cons_zero, List.set_cons_succ]
      refine takeD 6 (some 49) (.int .i64 num) rfl rfl (by kernel_rfl) (by kernel_rfl) (by kernel_rfl) (fun _ _ _ h => h) (Or.inl ⟨by rfl, ?_⟩) hHeld ?_
      · intro w hSw
        have hcx := cell_of_row _ _ 2 _ _ _ hSw.2.1
        simp only [List.getElem?_toArray, List.getElem?_cons_zero, List.getElem?_cons_succ] at hcx
        go_simp
      simp only [Act.put, List.setIfInBounds_toArray, List.set_cons_zero, List.set_cons_succ]
      refine takeD 7 (some 50) (.bool true) rfl rfl (by kernel_rfl) (by kernel_rfl) (by kernel_rfl) (fun _ _ _ h => h) (Or.inl ⟨by rfl, ?_⟩) hHeld ?_
      · intro w hSw
        go_simp
      simp only [Act.put, List.setIfInBounds_toArray, List.set_cons_zero, List.set_cons_succ]
      refine takeD 8 (some 51) (.bool true) rfl rfl (by kernel_rfl) (by kernel_rfl) (by kernel_rfl) (fun _ _ _ h => h) (Or.inl ⟨by rfl, ?_⟩) hHeld ?_
      · intro w hSw
        go_simp
      simp only [Act.put, List.setIfInBounds_toArray, List.set_cons_zero, List.set_cons_succ]
      refine takeD 9 (some 52) (.agg (regA x)) rfl rfl (by kernel_rfl) (by kernel_rfl) (by kernel_rfl) (fun _ _ _ h => h) (yields_load_reg (by rfl) 92 _ rfl w.heap.size rfl 92 x _ (fun w h => h.1) Tryd.underlying92 rfl Tryd.sizeRegistry) hHeld ?_
      simp only [Act.put, List.setIfInBounds_toArray, List.set_cons_zero, List.set_cons_succ]
      refine takeD 10 (some 53) (.agg #[.int .u8 118, .int .i64 (i : Int), .int .i64 num]) rfl rfl (by kernel_rfl) (by kernel_rfl) (by kernel_rfl) (fun _ _ _ h => h) (yieldsIf_load_mid (by rfl) 125 _ rfl (w.heap.size + 1) 0 rfl [.int .u8 118, .int .i64 (i : Int), .int .i64 num] _ (fun w h => row_range h.2.1) Tryd.underlying125 rfl (by rw [Tryd.sizeRecord]; rfl)) hHeld ?_
      simp only [Act.put, List.setIfInBounds_toArray, List.set_cons_zero, List.set_cons_succ]
      refine wpAnyH_ready (rs := [11]) (by kernel_rfl) (by simp) ?_
      refine AllReadyH.cons rfl (fun K hK => ?_) AllReadyH.nil
      go_simp
      go_wp2_with ((go_at_call 62; refine (with_any x 118 i num _ (fun _ => hi) (fun h => absurd rfl h)).mono ?_; rintro e w1 ⟨rfl, hb1⟩))
      have hsz := hHeld.2.2.size
      refine hK.out _ _ ⟨hHeld.1.below hb1, (hb1.block _ (row_lt hHeld.2.1)).trans hHeld.2.1, hHeld.2.2.trans (hb1.mono hsz)⟩ (fun hHeld => ?_)
      clear hK K hb1 hsz
      have hsp : spot 118 i = i := if_pos rfl
      rw [hsp]
      refine wpAnyH_ready (rs := [12]) (by kernel_rfl) (by simp) ?_
      refine AllReadyH.cons rfl (fun K hK => ?_) AllReadyH.nil
      go_simp
      go_wp2_with ((go_at_call 58; refine (total_any (upd x i num) _ HY.out).mono ?_; rintro e w1 ⟨rfl, hb1⟩))
      have hsz := hHeld.2.2.size
      refine hK.out _ _ ⟨hHeld.1.below hb1, (hb1.block _ (row_lt hHeld.2.1)).trans hHeld.2.1, hHeld.2.2.trans (hb1.mono hsz)⟩ (fun hHeld => ?_)
      clear hK K hb1 hsz
      refine takeD 13 (some 56) (.bool true) rfl rfl (by kernel_rfl) (by kernel_rfl) (by kernel_rfl) (fun _ _ _ h => h) (Or.inl ⟨by rfl, ?_⟩) hHeld ?_
      · intro w hSw
        go_simp
      simp only [Act.put, List.setIfInBounds_toArray, List.set_cons_zero, List.set_cons_succ]
      refine takeD 14 (some 57) (.bool true) rfl rfl (by kernel_rfl) (by kernel_rfl) (by kernel_rfl) (fun _ _ _ h => h) (Or.inl ⟨by rfl, ?_⟩) hHeld ?_
      · intro w hSw
        go_simp
      simp only [Act.put, List.setIfInBounds_toArray, List.set_cons_zero, List.set_cons_succ]
      refine wpAnyH_ready (rs := [15]) (by kernel_rfl) (by simp) ?_
      refine AllReadyH.cons rfl (fun K hK => ?_) AllReadyH.nil
      go_simp
      refine hK.out _ _ hHeld (fun hHeld => ?_)
      clear hK K
      refine wpAnyH_done (by kernel_rfl) ?_ _
      go_wp2
      go_ret
      exact ⟨ret_b HF.out.symm, hHeld.2.2⟩
    · have HF : Hid (mayB x 118 i num = false) := by unfold Hid mayB; simp [hn, hs]
      have hnb : (x i == num) = false := by simpa using hn
      have hnn : (x i != num) = true := by simpa using hn
      clear hn
      go_enter Tryd.func61, Tryd.ntmps61
      go_wp2_with fail
      refine wp_region_held_drew (S := fun W' => RegAt W' w.heap.size 92 x ∧ W'.heap[w.heap.size + 1]? = some (.cells #[.int .u8 118, .int .i64 (i : Int), .int .i64 num] 125 (0, 0)) ∧ Below w.heap.size w W') (by kernel_rfl) ⟨HR.out.drew, HROW.out, HB.out.drew⟩ (fun hHeld => ?_)
      refine takeD 0 (some 43) (.pointer (some ⟨w.heap.size + 1, 1, none⟩)) rfl rfl (by kernel_rfl) (by kernel_rfl) (by kernel_rfl) (fun _ _ _ h => h) (Or.inl ⟨by rfl, ?_⟩) hHeld ?_
      · intro w hSw
        go_simp
      simp only [Act.put, List.setIfInBounds_toArray, List.set_cons_zero, List.set_cons_succ]
      refine takeD 1 (some 44) (.int .i64 (i : Int)) rfl rfl (by kernel_rfl) (by kernel_rfl) (by kernel_rfl) (fun _ _ _ h => h) (Or.inl ⟨by rfl, ?_⟩) hHeld ?_
      · intro w hSw
        have hcx := cell_of_row _ _ 1 _ _ _ hSw.2.1
        simp only [List.getElem?_toArray, List.getElem?_cons_zero, List.getElem?_cons_succ] at hcx
        go_simp
      simp only [Act.put, List.setIfInBounds_toArray, List.set_cons_zero, List.set_cons_succ]
      refine takeD 2 (some 45) (.pointer (some ⟨w.heap.size, 0, none⟩)) rfl rfl (by kernel_rfl) (by kernel_rfl) (by kernel_rfl) (fun _ _ _ h => h) (Or.inl ⟨by rfl, ?_⟩) hHeld ?_
      · intro w hSw
        go_simp
      simp only [Act.put, List.setIfInBounds_toArray, List.set_cons_zero, List.set_cons_succ]
      refine takeD 3 (some 46) (.pointer (some ⟨w.heap.size, i, none⟩)) rfl rfl (by kernel_rfl) (by kernel_rfl) (by kernel_rfl) (fun _ _ _ h => h) (Or.inl ⟨by rfl, ?_⟩) hHeld ?_
      · intro w hSw
        go_simp
      simp only [Act.put, List.setIfInBounds_toArray, List.set_cons_zero, List.set_cons_succ]
      refine takeD 4 (some 47) (.int .i64 (x i)) rfl rfl (by kernel_rfl) (by kernel_rfl) (by kernel_rfl) (fun _ _ _ h => h) (Or.inl ⟨by rfl, ?_⟩) hHeld ?_
      · intro w hSw
        have hcx := hSw.1.cell i (by omega)
        go_simp
      simp only [Act.put, List.setIfInBounds_toArray, List.set_cons_zero, List.set_cons_succ]
      refine takeD 5 (some 48) (.pointer (some ⟨w.heap.size + 1, 2, none⟩)) rfl rfl (by kernel_rfl) (by kernel_rfl) (by kernel_rfl) (fun _ _ _ h => h) (Or.inl ⟨by rfl, ?_⟩) hHeld ?_
      · intro w hSw
        go_simp
      simp only [Act.put, List.setIfInBounds_toArray, List.set_cons_zero, List.set_cons_succ]
      refine takeD 6 (some 49) (.int .i64 num) rfl rfl (by kernel_rfl) (by kernel_rfl) (by kernel_rfl) (fun _ _ _ h => h) (Or.inl ⟨by rfl, ?_⟩) hHeld ?_
      · intro w hSw
        have hcx := cell_of_row _ _ 2 _ _ _ hSw.2.1
        simp only [List.getElem?_toArray, List.getElem?_cons_zero, List.getElem?_cons_succ] at hcx
        go_simp
      simp only [Act.put, List.setIfInBounds_toArray, List.set_cons_zero, List.set_cons_succ]
      refine takeD 7 (some 50) (.bool true) rfl rfl (by kernel_rfl) (by kernel_rfl) (by kernel_rfl) (fun _ _ _ h => h) (Or.inl ⟨by rfl, ?_⟩) hHeld ?_
      · intro w hSw
        go_simp
      simp only [Act.put, List.setIfInBounds_toArray, List.set_cons_zero, List.set_cons_succ]
      refine takeD 8 (some 51) (.bool true) rfl rfl (by kernel_rfl) (by kernel_rfl) (by kernel_rfl) (fun _ _ _ h => h) (Or.inl ⟨by rfl, ?_⟩) hHeld ?_
      · intro w hSw
        go_simp
      simp only [Act.put, List.setIfInBounds_toArray, List.set_cons_zero, List.set_cons_succ]
      refine takeD 9 (some 52) (.agg (regA x)) rfl rfl (by kernel_rfl) (by kernel_rfl) (by kernel_rfl) (fun _ _ _ h => h) (yields_load_reg (by rfl) 92 _ rfl w.heap.size rfl 92 x _ (fun w h => h.1) Tryd.underlying92 rfl Tryd.sizeRegistry) hHeld ?_
      simp only [Act.put, List.setIfInBounds_toArray, List.set_cons_zero, List.set_cons_succ]
      refine takeD 10 (some 53) (.agg #[.int .u8 118, .int .i64 (i : Int), .int .i64 num]) rfl rfl (by kernel_rfl) (by kernel_rfl) (by kernel_rfl) (fun _ _ _ h => h) (yieldsIf_load_mid (by rfl) 125 _ rfl (w.heap.size + 1) 0 rfl [.int .u8 118, .int .i64 (i : Int), .int .i64 num] _ (fun w h => row_range h.2.1) Tryd.underlying125 rfl (by rw [Tryd.sizeRecord]; rfl)) hHeld ?_
      simp only [Act.put, List.setIfInBounds_toArray, List.set_cons_zero, List.set_cons_succ]
      refine wpAnyH_ready (rs := [11]) (by kernel_rfl) (by simp) ?_
      refine AllReadyH.cons rfl (fun K hK => ?_) AllReadyH.nil
      go_simp
      go_wp2_with ((go_at_call 62; refine (with_any x 118 i num _ (fun _ => hi) (fun h => absurd rfl h)).mono ?_; rintro e w1 ⟨rfl, hb1⟩))
      have hsz := hHeld.2.2.size
      refine hK.out _ _ ⟨hHeld.1.below hb1, (hb1.block _ (row_lt hHeld.2.1)).trans hHeld.2.1, hHeld.2.2.trans (hb1.mono hsz)⟩ (fun hHeld => ?_)
      clear hK K hb1 hsz
      have hsp : spot 118 i = i := if_pos rfl
      rw [hsp]
      refine wpAnyH_ready (rs := [12]) (by kernel_rfl) (by simp) ?_
      refine AllReadyH.cons rfl (fun K hK => ?_) AllReadyH.nil
      go_simp
      go_wp2_with ((go_at_call 58; refine (total_any (upd x i num) _ HY.out).mono ?_; rintro e w1 ⟨rfl, hb1⟩))
      have hsz := hHeld.2.2.size
      refine hK.out _ _ ⟨hHeld.1.below hb1, (hb1.block _ (row_lt hHeld.2.1)).trans hHeld.2.1, hHeld.2.2.trans (hb1.mono hsz)⟩ (fun hHeld => ?_)
      clear hK K hb1 hsz
      refine takeD 13 (some 56) (.bool false) rfl rfl (by kernel_rfl) (by kernel_rfl) (by kernel_rfl) (fun _ _ _ h => h) (Or.inl ⟨by rfl, ?_⟩) hHeld ?_
      · intro w hSw
        go_simp
      simp only [Act.put, List.setIfInBounds_toArray, List.set_cons_zero, List.set_cons_succ]
      refine takeD 14 (some 57) (.bool false) rfl rfl (by kernel_rfl) (by kernel_rfl) (by kernel_rfl) (fun _ _ _ h => h) (Or.inl ⟨by rfl, ?_⟩) hHeld ?_
      · intro w hSw
        go_simp
      simp only [Act.put, List.setIfInBounds_toArray, List.set_cons_zero, List.set_cons_succ]
      refine wpAnyH_ready (rs := [15]) (by kernel_rfl) (by simp) ?_
      refine AllReadyH.cons rfl (fun K hK => ?_) AllReadyH.nil
      go_simp
      refine hK.out _ _ hHeld (fun hHeld => ?_)
      clear hK K
      refine wpAnyH_done (by kernel_rfl) ?_ _
      go_wp2
      go_ret
      exact ⟨ret_b HF.out.symm, hHeld.2.2⟩

/-- Whether a record may be. -/
theorem may_any (x : Nat → Int) (kind : Int) (i : Nat) (num : Int) (w : World) (hx : Dom x) (hk : kind = 106 ∨ kind = 108 ∨ kind = 114 ∨ kind = 118) (h1 : kind = 118 → i < 8) (h2 : kind ≠ 118 → i < 26) (hn0 : 0 ≤ num) (hn9 : num ≤ 9) :
    Calls Tryd.prog 61 #[.agg (regA x), .agg #[.int .u8 kind, .int .i64 (i : Int), .int .i64 num]] w fun e w' => e = .returned (.bool (mayB x kind i num)) ∧ Below w.heap.size w w' := by
  rcases hk with rfl | rfl | rfl | rfl
  · exact may_j x i num w (h2 (by decide))
  · exact may_l x i num w (h2 (by decide))
  · exact may_r x i num w (h2 (by decide))
  · exact may_v x i num w hx (h1 rfl) hn0 hn9

end Go.Proofs.YtcfjhbcpjpgodaaDoor
