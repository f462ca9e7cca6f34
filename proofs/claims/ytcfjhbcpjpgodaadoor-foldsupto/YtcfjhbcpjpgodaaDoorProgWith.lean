/- Proved here: the program's registry behind a record. -/
import Derived.Test.YtcfjhbcpjpgodaaDoorProgTotal
import Derived.Test.YtcfjhbcpjpgodaaDoorRefGen
namespace Go.Proofs.YtcfjhbcpjpgodaaDoor
open Go.RowKit

/-- Which of the thirty-four numbers a record speaks of. -/
def spot (kind : Int) (i : Nat) : Nat := if kind = 118 then i else 8 + i

set_option maxRecDepth 100000 in
set_option maxHeartbeats 3200000 in
theorem with_any (x : Nat → Int) (kind : Int) (i : Nat) (num : Int) (w : World) (h1 : kind = 118 → i < 8) (h2 : kind ≠ 118 → i < 26) :
    Calls Tryd.prog 62 #[.agg (regA x), .agg #[.int .u8 kind, .int .i64 (i : Int), .int .i64 num]] w fun e w' => e = .returned (.agg (regA (upd x (spot kind i) num))) ∧ Below w.heap.size w w' := by
  have z0 := regA_zero
  have e2 : ∀ o1 o2 : Obj, ((w.alloc o1).alloc o2).heap.size = w.heap.size + 1 + 1 := fun o1 o2 => by simp
  obtain ⟨W, hW⟩ : ∃ W, W = ((w.alloc (.cells (regA x) 92)).alloc (.cells #[.int .u8 kind, .int .i64 (i : Int), .int .i64 num] 125)).alloc (.cells (regA reg0) 92) := ⟨_, rfl⟩
  have HR : Hid (RegAt W w.heap.size 92 x) := by
    unfold Hid
    rw [hW]
    exact ((RegAt.alloc w _ x).below ((Below.refl _ _).alloc (Nat.le_refl _) _)).below ((Below.refl _ _).alloc (Nat.le_refl _) _)
  have HR2 : Hid (RegAt W (w.heap.size + 1 + 1) 92 reg0) := by
    unfold Hid
    have h := RegAt.alloc ((w.alloc (.cells (regA x) 92)).alloc (.cells #[.int .u8 kind, .int .i64 (i : Int), .int .i64 num] 125)) 92 reg0
    rw [e2] at h
    rw [hW]
    exact h
  have hrow : W.heap[w.heap.size + 1]? = some (.cells #[.int .u8 kind, .int .i64 (i : Int), .int .i64 num] 125 (0, 0)) := by
    have h := heap_alloc_new (w.alloc (.cells (regA x) 92)) (.cells #[.int .u8 kind, .int .i64 (i : Int), .int .i64 num] 125)
    have e1 : (w.alloc (.cells (regA x) 92)).heap.size = w.heap.size + 1 := by simp
    rw [e1] at h
    rw [hW, Below.heap_alloc _ _ (w.heap.size + 1) (by rw [e2]; omega)]
    exact h
  have hk0 := cell_of_row W (w.heap.size + 1) 0 _ _ _ hrow
  have hk1 := cell_of_row W (w.heap.size + 1) 1 _ _ _ hrow
  have hk2 := cell_of_row W (w.heap.size + 1) 2 _ _ _ hrow
  simp only [List.getElem?_toArray, List.getElem?_cons_zero, List.getElem?_cons_succ] at hk0 hk1 hk2
  have HB : Hid (Below w.heap.size w W) := by
    unfold Hid
    rw [hW]
    exact (((Below.refl _ w).alloc (Nat.le_refl _) _).alloc (by simp) _).alloc (by rw [e2]; omega) _
  have hW2 := hW.symm
  clear hrow e2 hW
  by_cases hk : kind = 118
  · have hi8 : (i : Int) < 8 := by have := h1 hk; omega
    have hsp : spot kind i = i := if_pos hk
    subst hk
    have hc := HR.out.cell i (by omega)
    have hf := HR.out.frozen i
    have HU := hide (HR.out.set i num (by omega))
    have HO := hide (only_setCell W w.heap.size i (.int .i64 num))
    rw [hsp]
    go_enter Tryd.func62, Tryd.ntmps62
    go_wp2_with (first | (refine wpList_load_reg rfl 92 _ rfl _ rfl 92 _ _ HU.out Tryd.underlying92 rfl Tryd.sizeRegistry ?_) | (refine wpList_store_reg rfl 92 _ _ rfl (w.heap.size + 1 + 1) _ rfl rfl 92 _ (HR2.out.only HO.out (by omega)) (regA_size _) Tryd.sizeRegistry ?_; intro w5 hq ho))
    exact bodyPost_ret (v := .agg (regA (upd x i num))) (results_reg1 Tryd.results62 _ _ (w.heap.size + 1 + 1) 92 _ _ rfl hq Tryd.underlying92 rfl Tryd.sizeRegistry) rfl ⟨rfl, (HB.out.trans (HO.out.below (Nat.le_refl _))).trans (ho.below (by omega))⟩
  · have hi8 : (i : Int) < 26 := by have := h2 hk; omega
    have hsp : spot kind i = 8 + i := if_neg hk
    have hkb : (kind == 118) = false := by simpa using hk
    have hc := HR.out.cell (8 + i) (by omega)
    have hf := HR.out.frozen (8 + i)
    have HU := hide (HR.out.set (8 + i) num (by omega))
    have HO := hide (only_setCell W w.heap.size (8 + i) (.int .i64 num))
    rw [hsp]
    clear hk
    go_enter Tryd.func62, Tryd.ntmps62
    go_wp2_with (first | (refine wpList_load_reg rfl 92 _ rfl _ rfl 92 _ _ HU.out Tryd.underlying92 rfl Tryd.sizeRegistry ?_) | (refine wpList_store_reg rfl 92 _ _ rfl (w.heap.size + 1 + 1) _ rfl rfl 92 _ (HR2.out.only HO.out (by omega)) (regA_size _) Tryd.sizeRegistry ?_; intro w5 hq ho))
    exact bodyPost_ret (v := .agg (regA (upd x (8 + i) num))) (results_reg1 Tryd.results62 _ _ (w.heap.size + 1 + 1) 92 _ _ rfl hq Tryd.underlying92 rfl Tryd.sizeRegistry) rfl ⟨rfl, (HB.out.trans (HO.out.below (Nat.le_refl _))).trans (ho.below (by omega))⟩

end Go.Proofs.YtcfjhbcpjpgodaaDoor
