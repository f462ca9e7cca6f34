/- Proved here: the statement Names as a walk: in every world in which the twelve sentinels lie as listed the call returns true and leaves all old memory as it was. -/
import Derived.Test.YtcfjhbcpjpgodaaDoorWhich
namespace Go.Proofs.YtcfjhbcpjpgodaaDoor
open Go.RowKit Go.Extern.Stop Go.Stop Go.Extern

set_option maxHeartbeats 400000 in
theorem names_walk {es : List Addr} {w : World} (hS : Sent es w) :
    Calls Tryd.prog 3 #[] w fun e w' => e = .returned (.bool true) ∧ Below w.heap.size w w' := by
  match es, hS.len with
  | [a0, a1, a2, a3, a4, a5, a6, a7, a8, a9, a10, a11], _ =>
  have c0 := hS.cell 0 _ _ rfl rfl
  have c1 := hS.cell 1 _ _ rfl rfl
  have c2 := hS.cell 2 _ _ rfl rfl
  have c3 := hS.cell 3 _ _ rfl rfl
  have c4 := hS.cell 4 _ _ rfl rfl
  have c5 := hS.cell 5 _ _ rfl rfl
  have c6 := hS.cell 6 _ _ rfl rfl
  have c7 := hS.cell 7 _ _ rfl rfl
  have c8 := hS.cell 8 _ _ rfl rfl
  have c9 := hS.cell 9 _ _ rfl rfl
  have c10 := hS.cell 10 _ _ rfl rfl
  have c11 := hS.cell 11 _ _ rfl rfl
  have hS' := hide hS
  clear hS
  go_enter Tryd.func3, Tryd.ntmps3
  go_wp2
  go_loopw [2] (fun i wr => ∃ j : Nat, j ≤ 12 ∧ i = .int .i64 j ∧ (∀ j, j < 12 → wr.cell? ⟨w.heap.size, j, none⟩ = some (.iface 188 (.pointer (some ([a0, a1, a2, a3, a4, a5, a6, a7, a8, a9, a10, a11].getD j a0))))) ∧ w.heap.size < wr.heap.size ∧ Below w.heap.size w wr) (fun i _ => 12 - (intOf i).toNat)
  case atStart =>
    refine ⟨0, by omega, rfl, ?_, by simp, (Below.refl _ _).alloc (Nat.le_refl _) _⟩
    intro j hj
    match j, hj with
    | 0, _ | 1, _ | 2, _ | 3, _ | 4, _ | 5, _ | 6, _ | 7, _ | 8, _ | 9, _ | 10, _ | 11, _ => simp
  case round =>
    obtain ⟨j, hj, rfl, hcell, hsz, hb⟩ := hrel
    have hS1 := hide (hS'.out.later hb)
    by_cases hlt : j < 12
    · have hc := hcell j hlt
      have hjb : [a0, a1, a2, a3, a4, a5, a6, a7, a8, a9, a10, a11][j]? = some ([a0, a1, a2, a3, a4, a5, a6, a7, a8, a9, a10, a11].getD j a0) := by
        rw [List.getD_eq_getElem?_getD, List.getElem?_eq_getElem (by simpa using hlt)]; rfl
      generalize [a0, a1, a2, a3, a4, a5, a6, a7, a8, a9, a10, a11].getD j a0 = b at hc hjb
      have hJ := hide hjb
      have hcl := hide hcell
      clear hcell hjb
      go_wp2_with fail
      refine (which_sent hS1.out j b hJ.out).mono ?_
      rintro e w1 ⟨rfl, hb1⟩
      have hc1 : w1.cell? ⟨w.heap.size, j, none⟩ = some (.iface 188 (.pointer (some b))) := by rw [hb1.cell (p := ⟨w.heap.size, j, none⟩) hsz]; exact hc
      go_wp2
      go_roundw
      case rel => exact ⟨j + 1, by omega, by go_num, fun i hi => by rw [hb1.cell (p := ⟨w.heap.size, i, none⟩) hsz]; exact hcl.out i hi, Nat.lt_of_lt_of_le hsz hb1.size, hb.trans (hb1.mono (Nat.le_of_lt hsz))⟩
      case measure => simp [intOf]; omega
    · go_wp2
      go_ret
      exact ⟨rfl, hb⟩

end Go.Proofs.YtcfjhbcpjpgodaaDoor
