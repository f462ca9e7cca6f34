/- Proved here: what the program's why takes out of an api.Refused: the error that it wraps. -/
import Derived.Test.YtcfjhbcpjpgodaaDoorAs
import Derived.Test.YtcfjhbcpjpgodaaDoorOpen
namespace Go.Proofs.YtcfjhbcpjpgodaaDoor
open Go.RowKit

/-- Where package errors keeps the type 'error'. -/
def TypAt (w : World) : Prop := w.cell? ⟨12, 0, none⟩ = some (.iface 144 (.agg #[.pointer (some ⟨16, 23, none⟩)]))
theorem TypAt.below {w w' : World} (h : TypAt w) (hb : Below w.heap.size w w') : TypAt w' := by
  unfold TypAt at h ⊢
  rw [hb.cell (p := ⟨12, 0, none⟩) (by exact World.block_lt_of_cell? _ _ h)]
  exact h

set_option maxHeartbeats 1600000 in
theorem why_any (g : Nat) (f : Int) (b : Addr) (w : World) (hr : RefAt w g f b) (hT : TypAt w) :
    Calls Tryd.prog 47 #[refV g] w fun e w' => e = .returned (.iface 188 (.pointer (some b))) ∧ Below w.heap.size w w' := by
  have hc1 : w.cell? ⟨g, 1, none⟩ = some (.iface 188 (.pointer (some b))) := cell_of_row w g 1 _ _ _ hr
  have hgl : g < w.heap.size := row_lt0 hr
  have HT := hide hT
  clear hr hT
  unfold refV
  go_enter Tryd.func47, Tryd.ntmps47
  go_wp2_with fail
  refine (as_hit ⟨g, 0, none⟩ ⟨w.heap.size, 0, none⟩ (.pointer none) _ (HT.out.below ((Below.refl _ w).alloc (Nat.le_refl _) _)) (by simp) (by simp)).mono ?_
  rintro e w1 ⟨rfl, hw1⟩
  have HB : Hid (Below w.heap.size w w1) := by
    unfold Hid
    rw [hw1]
    exact (((((((Below.refl _ w).alloc (Nat.le_refl _) _).alloc (by simp) _).alloc (by simp; omega) _).alloc (by simp; omega) _).alloc (by simp; omega) _).setCell (by exact Nat.le_refl _) _)
  have q0 : w1.cell? ⟨w.heap.size, 0, none⟩ = some (.pointer (some ⟨g, 0, none⟩)) := by
    rw [hw1]
    refine World.cell?_setCell_same _ _ _ (u := .pointer none) ?_
    rw [World.cell?_alloc_lt _ _ ⟨w.heap.size, 0, none⟩ (by simp; omega), World.cell?_alloc_lt _ _ ⟨w.heap.size, 0, none⟩ (by simp; omega), World.cell?_alloc_lt _ _ ⟨w.heap.size, 0, none⟩ (by simp; omega), World.cell?_alloc_lt _ _ ⟨w.heap.size, 0, none⟩ (by simp)]
    exact cell_of_row _ _ 0 _ _ _ (heap_alloc_new w _)
  have q1 : w1.cell? ⟨g, 1, none⟩ = some (.iface 188 (.pointer (some b))) := (HB.out.cell (p := ⟨g, 1, none⟩) (by exact hgl)).trans hc1
  clear hw1 hc1
  go_wp2
  go_ret
  exact ⟨rfl, HB.out⟩

end Go.Proofs.YtcfjhbcpjpgodaaDoor
