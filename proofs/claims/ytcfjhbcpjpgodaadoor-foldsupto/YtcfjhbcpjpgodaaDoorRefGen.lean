/- Proved here: what the document's Genesis answers at every list of powers. -/
import Derived.Test.YtcfjhbcpjpgodaaDoorReg1
namespace Go.Proofs.YtcfjhbcpjpgodaaDoor
open Go.RowKit

/-- The registry of the first k powers. -/
def regOf (g : Nat → Int) (k : Nat) : Nat → Int := fun i => if i < k then g i else 0

theorem regOf_zero (g : Nat → Int) : regOf g 0 = reg0 := by funext i; simp [regOf, reg0]
theorem regOf_succ (g : Nat → Int) (k : Nat) : upd (regOf g k) k (g k) = regOf g (k + 1) := by
  funext i
  simp only [upd, regOf]
  by_cases h : i = k
  · subst h; simp
  · rw [if_neg h]
    by_cases h2 : i < k
    · rw [if_pos h2, if_pos (by omega)]
    · rw [if_neg h2, if_neg (by omega)]

/-- A genesis that is one, and its registry. -/
def genR (g : Nat → Int) (n : Nat) : (Nat → Int) × Bool := if n ≤ 8 ∧ ∀ i, i < n → 0 ≤ g i ∧ g i ≤ 9 then (regOf g n, decide (0 < sumTo g n)) else (reg0, false)

theorem genR_bad (g : Nat → Int) (n : Nat) (h : ¬ (n ≤ 8 ∧ ∀ i, i < n → 0 ≤ g i ∧ g i ≤ 9)) : genR g n = (reg0, false) := if_neg h
theorem genR_good (g : Nat → Int) (n : Nat) (h : n ≤ 8) (h2 : ∀ i, i < n → 0 ≤ g i ∧ g i ≤ 9) : genR g n = (regOf g n, decide (0 < sumTo g n)) := if_pos ⟨h, h2⟩

set_option maxRecDepth 100000 in
set_option maxHeartbeats 3200000 in
theorem genesis_any (g : Nat → Int) (p : Option Addr) (n cap : Nat) (w : World) (hl : Lies w w.heap.size p n (fun i => .int .i64 (g i))) :
    Calls Tryd.prog 27 #[.slice p n cap] w fun e w' => e = .returned (.tuple #[.agg (regA (genR g n).1), .bool (genR g n).2]) ∧ Below w.heap.size w w' := by
  have z0 := regA_zero
  have HL := hide hl
  clear hl
  go_enter Tryd.func27, Tryd.ntmps27
  go_wp2
  go_loopw [5, 6] (fun s i wr => ∃ k : Nat, k ≤ n ∧ k ≤ 8 ∧ (∀ j, j < k → 0 ≤ g j ∧ g j ≤ 9) ∧ i = .int .i64 k ∧ s = .int .i64 (sumTo g k) ∧ RegAt wr w.heap.size 54 reg0 ∧ RegAt wr (w.heap.size + 1) 54 (regOf g k) ∧ Below w.heap.size w wr) (fun _ i _ => n - (intOf i).toNat)
  case atStart =>
    refine ⟨0, by omega, by omega, fun j hj => by omega, rfl, rfl, ?_, ?_, ?_⟩
    · have h := (RegAt.alloc w 54 reg0).below ((Below.refl _ _).alloc (Nat.le_refl _) (.cells (regA reg0) 54))
      rw [← z0] at h ⊢
      exact h
    · have h := RegAt.alloc (w.alloc (.cells (regA reg0) 54)) 54 reg0
      rw [regOf_zero]
      simpa using h
    · exact ((Below.refl _ w).alloc (Nat.le_refl _) _).alloc (by simp) _
  case round =>
    obtain ⟨k, hk, hk8, hd, rfl, rfl, h1, h2, hb⟩ := hrel
    have HD := hide hd
    have HB := hide hb
    have H1 := hide h1
    have H2 := hide h2
    clear hd hb h1 h2
    by_cases hkn : k = n
    · subst hkn
      go_wp2_with (first | (refine wpList_load_reg rfl 54 _ rfl _ rfl 54 _ _ H2.out Tryd.underlying54 rfl Tryd.sizeReg ?_) | (refine wpList_store_reg rfl 54 _ _ rfl (w.heap.size) _ rfl rfl 54 _ H1.out (regA_size _) Tryd.sizeReg ?_; intro w2 hq ho))
      exact bodyPost_ret (v := .tuple #[.agg (regA (regOf g k)), .bool (decide (0 < sumTo g k))]) (results_reg2 Tryd.results27 _ _ w.heap.size 54 _ _ _ rfl rfl hq Tryd.underlying54 rfl Tryd.sizeReg) rfl ⟨by rw [genR_good g k hk8 HD.out], HB.out.trans (ho.below (Nat.le_refl _))⟩
    · have hlt : k < n := by omega
      have hki : (k : Int) < n := by omega
      obtain ⟨b, o, rfl, hbb, hc⟩ := HL.out k hlt
      have hcr := (HB.out.cell (p := ⟨b, o + k, none⟩) (by exact hbb)).trans hc
      clear hc hkn
      by_cases h8 : k = 8
      · subst h8
        have HR : genR g n = (reg0, false) := genR_bad g n (fun hh => by have := hh.1; omega)
        go_wp2_with (refine wpList_store_reg rfl 54 _ _ rfl (w.heap.size) reg0 rfl rfl 54 _ H1.out (regA_size _) Tryd.sizeReg ?_; intro w2 hq ho)
        exact bodyPost_ret (v := .tuple #[.agg (regA reg0), .bool false]) (results_reg2 Tryd.results27 _ _ w.heap.size 54 _ _ _ rfl rfl hq Tryd.underlying54 rfl Tryd.sizeReg) rfl ⟨by first | rfl | rw [HR], HB.out.trans (ho.below (Nat.le_refl _))⟩
      · have h8i : (k : Int) < 8 := by omega
        by_cases hneg : g k < 0
        · have HR : genR g n = (reg0, false) := genR_bad g n (fun hh => by have := hh.2 k hlt; omega)
          go_wp2_with (refine wpList_store_reg rfl 54 _ _ rfl (w.heap.size) reg0 rfl rfl 54 _ H1.out (regA_size _) Tryd.sizeReg ?_; intro w2 hq ho)
          exact bodyPost_ret (v := .tuple #[.agg (regA reg0), .bool false]) (results_reg2 Tryd.results27 _ _ w.heap.size 54 _ _ _ rfl rfl hq Tryd.underlying54 rfl Tryd.sizeReg) rfl ⟨by first | rfl | rw [HR], HB.out.trans (ho.below (Nat.le_refl _))⟩
        · by_cases hbig : 9 < g k
          · have HR : genR g n = (reg0, false) := genR_bad g n (fun hh => by have := hh.2 k hlt; omega)
            go_wp2_with (refine wpList_store_reg rfl 54 _ _ rfl (w.heap.size) reg0 rfl rfl 54 _ H1.out (regA_size _) Tryd.sizeReg ?_; intro w2 hq ho)
            exact bodyPost_ret (v := .tuple #[.agg (regA reg0), .bool false]) (results_reg2 Tryd.results27 _ _ w.heap.size 54 _ _ _ rfl rfl hq Tryd.underlying54 rfl Tryd.sizeReg) rfl ⟨by first | rfl | rw [HR], HB.out.trans (ho.below (Nat.le_refl _))⟩
          · have hsb := sumTo_bound g k HD.out
            have hcell := H2.out.cell k (by omega)
            have hfz := H2.out.frozen k
            have hcr2 : (wr.setCell ⟨w.heap.size + 1, k, none⟩ (.int .i64 (g k))).cell? ⟨b, o + k, none⟩ = some (.int .i64 (g k)) := by
              rw [← hcr]
              exact World.cell?_of_block (by simp [World.setCell, Array.getElem?_modify]; omega)
            go_wp2
            go_roundw
            case rel =>
              refine ⟨k + 1, by omega, by omega, fun j hj => ?_, by go_num, rfl, ?_, ?_, ?_⟩
              · by_cases hj2 : j < k
                · exact HD.out j hj2
                · obtain rfl : j = k := by omega
                  omega
              · exact H1.out.only (only_setCell _ _ _ _) (by omega)
              · rw [← regOf_succ]
                exact H2.out.set k (g k) (by omega)
              · exact HB.out.trans ((only_setCell _ _ _ _).below (by omega))
            case measure => simp [intOf]; omega

end Go.Proofs.YtcfjhbcpjpgodaaDoor
