/- Proved here: how a whole registry is loaded and stored: laws for the walk, over worlds that are letters. · Proved here: what the document's Genesis answers at every list of powers. -/
import Derived.Test.YtcfjhbcpjpgodaaDoorReg0
import Derived.Laws.CopyRow
import Derived.Deep.RegionHeld
import Derived.Deep.DeepCutAuto
namespace Go.Proofs.YtcfjhbcpjpgodaaDoor
open Go.RowKit

theorem RegAt.only {w w' : World} {g g' : Nat} {t : TypeId} {x : Nat → Int} (h : RegAt w g t x) (ho : Only g' w w') (hg : g ≠ g') : RegAt w' g t x := by
  unfold RegAt at h ⊢
  rw [ho.block g hg]
  exact h
theorem RegAt.drew {w : World} {g : Nat} {t : TypeId} {x : Nat → Int} (h : RegAt w g t x) : RegAt w.drew g t x := h
theorem RegAt.below {w w' : World} {g : Nat} {t : TypeId} {x : Nat → Int} (h : RegAt w g t x) (hb : Below w.heap.size w w') : RegAt w' g t x := h.later hb h.lt

theorem regA_one (x : Nat → Int) : ∀ v ∈ (regA x).toList, v.oneCell' = true := by
  intro v hv
  simp only [regA, regL, List.toList_toArray, List.mem_map] at hv
  obtain ⟨i, _, rfl⟩ := hv
  rfl

section
variable {P : Program}

theorem run_storeVar_row (w : World) (g : Nat) (t ty : TypeId) (C : Array Value) (x : Nat → Int) (hg : w.heap[g]? = some (.cells C t (0, 0))) (hC : C.size = 34) (hi : (P.info? ty).map (·.size) = some 34) :
    (storeVar ty ⟨g, 0, none⟩ (.agg (regA x))).run P w = .ok () (w.setRow g (regA x)) := by
  have h := run_storeCells_at P g 0 t (regA x).toList 0 C w hg (by simp [regA_size, hC]) (regA_one x)
  have e : (C.toList.take (0 + 0) ++ (regA x).toList ++ C.toList.drop (0 + 0 + (regA x).toList.length)).toArray = regA x := by
    rw [Nat.add_zero, List.take_zero, List.nil_append, List.drop_of_length_le (by simp [regA_size, hC]), List.append_nil, Array.toArray_toList]
  rw [e] at h
  cases hq : P.info? ty with
  | none => simp [hq] at hi
  | some i =>
    have hs : i.size = 34 := by simpa [hq] using hi
    simp [storeVar, sizeOf, typeInfo, hq, Value.cells, hs, regA_size, h]

/-- A registry is stored over a whole block. -/
theorem wp_store_reg {op : Oper} {a : Act} {w : World} {K : Act → World → Prop} {Q : Exit → Act → World → Prop} (ty : TypeId) (p y : Operand) (ho : op.op = .store ty p y)
    (g : Nat) (x : Nat → Int) (hp : a.eval p = .pointer (some ⟨g, 0, none⟩)) (hy : a.eval y = .agg (regA x)) (t : TypeId) (C : Array Value) (hg : w.heap[g]? = some (.cells C t (0, 0))) (hC : C.size = 34) (hi : (P.info? ty).map (·.size) = some 34)
    (h : ∀ w', RegAt w' g t x → Only g w w' → K (a.put op.dst undef) w') : op.wp P a w K Q := by
  unfold Oper.wp execOp
  simp only [ho, hp, hy, Instr.storeAt, Instr.sureAddr, Sem.run_bind, Sem.run_pure, Result.andThen_ok, run_storeVar_row w g t ty C x hg hC hi]
  exact h _ (setRow_heap _ _ C _ t (0, 0) hg) (only_setRow _ _ _)

theorem wpList_store_reg {ops : Array Oper} {rest : List Oper} {op : Oper} {a : Act} {w : World} {Q : Exit → Act → World → Prop} (hgd : op.guard = none) (ty : TypeId) (p y : Operand) (ho : op.op = .store ty p y)
    (g : Nat) (x : Nat → Int) (hp : a.eval p = .pointer (some ⟨g, 0, none⟩)) (hy : a.eval y = .agg (regA x)) (t : TypeId) (C : Array Value) (hg : w.heap[g]? = some (.cells C t (0, 0))) (hC : C.size = 34) (hi : (P.info? ty).map (·.size) = some 34)
    (h : ∀ w', RegAt w' g t x → Only g w w' → wpList P ops Q rest (a.put op.dst undef) w') : wpList P ops Q (op :: rest) a w :=
  wpList_plain hgd fun _ hK => wp_store_reg ty p y ho g x hp hy t C hg hC hi fun w' h1 h2 => hK _ _ (h w' h1 h2)

/-- A registry is loaded from a whole block. -/
theorem wpList_load_reg {ops : Array Oper} {rest : List Oper} {op : Oper} {a : Act} {w : World} {Q : Exit → Act → World → Prop} (hgd : op.guard = none) (ty : TypeId) (p : Operand) (ho : op.op = .load ty p)
    (g : Nat) (hp : a.eval p = .pointer (some ⟨g, 0, none⟩)) (t : TypeId) (x : Nat → Int) (d : TypeDesc) (hg : RegAt w g t x) (hu : P.underlying ty = some d) (hd : d.isRow = true) (hi : (P.info? ty).map (·.size) = some 34)
    (h : wpList P ops Q rest (a.put op.dst (.agg (regA x))) w) : wpList P ops Q (op :: rest) a w :=
  wpList_load_row hgd ty p ho g hp t (regA x) (0, 0) d hg hu (by cases d <;> simp_all) (by rw [regA_size]; exact hi) h

theorem RegAt.range {w : World} {g : Nat} {t : TypeId} {x : Nat → Int} (h : RegAt w g t x) : w.rangeAt g 0 (regL x) := fun j v hv => by
  have hj : j < 34 := by have := (List.getElem?_eq_some_iff.1 hv).1; simpa [regL] using this
  rw [Nat.zero_add, h.cell j hj]
  have : (regL x)[j]? = some (.int .i64 (x j)) := by simp [regL, hj]
  rw [this] at hv
  exact hv

/-- In a region that draws its order. -/
theorem yields_load_reg {ops : Array Oper} {S : World → Prop} {op : Oper} {a : Act} (hw : Region.wanted op (yielded ops a.tmps) = true) (ty : TypeId) (p : Operand) (ho : op.op = .load ty p)
    (g : Nat) (hp : a.eval p = .pointer (some ⟨g, 0, none⟩)) (t : TypeId) (x : Nat → Int) (d : TypeDesc) (hS : ∀ w, S w → RegAt w g t x) (hu : P.underlying ty = some d) (hd : d.isRow = true) (hi : (P.info? ty).map (·.size) = some 34) :
    YieldsIf P ops S op (.agg (regA x)) a :=
  yieldsIf_load_mid hw ty p ho g 0 hp (regL x) d (fun w h => (hS w h).range) hu hd (by rw [hi]; simp [regL])

/-- The powers alone. -/
theorem yields_load_powers {ops : Array Oper} {S : World → Prop} {op : Oper} {a : Act} (hw : Region.wanted op (yielded ops a.tmps) = true) (ty : TypeId) (p : Operand) (ho : op.op = .load ty p)
    (g : Nat) (hp : a.eval p = .pointer (some ⟨g, 0, none⟩)) (t : TypeId) (x : Nat → Int) (d : TypeDesc) (hS : ∀ w, S w → RegAt w g t x) (hu : P.underlying ty = some d) (hd : d.isRow = true) (hi : (P.info? ty).map (·.size) = some 8) :
    YieldsIf P ops S op (.agg #[.int .i64 (x 0), .int .i64 (x 1), .int .i64 (x 2), .int .i64 (x 3), .int .i64 (x 4), .int .i64 (x 5), .int .i64 (x 6), .int .i64 (x 7)]) a :=
  yieldsIf_load_mid hw ty p ho g 0 hp [.int .i64 (x 0), .int .i64 (x 1), .int .i64 (x 2), .int .i64 (x 3), .int .i64 (x 4), .int .i64 (x 5), .int .i64 (x 6), .int .i64 (x 7)] d (fun w h j v hv => by
    have hr := (hS w h).cell
    match j, hv with
    | 0, hv => simp at hv; subst hv; exact hr 0 (by omega)
    | 1, hv => simp at hv; subst hv; exact hr 1 (by omega)
    | 2, hv => simp at hv; subst hv; exact hr 2 (by omega)
    | 3, hv => simp at hv; subst hv; exact hr 3 (by omega)
    | 4, hv => simp at hv; subst hv; exact hr 4 (by omega)
    | 5, hv => simp at hv; subst hv; exact hr 5 (by omega)
    | 6, hv => simp at hv; subst hv; exact hr 6 (by omega)
    | 7, hv => simp at hv; subst hv; exact hr 7 (by omega)
    | j + 8, hv => simp at hv) hu hd (by rw [hi]; rfl)
end

/-- A registry stored into the block that was made last. -/
theorem run_storeCells_new {P : Program} (W : World) (t : TypeId) (x y : Nat → Int) : (storeCells ⟨W.heap.size, 0, none⟩ (regA y).toList).run P (W.alloc (.cells (regA x) t)) = .ok () (W.alloc (.cells (regA y) t)) := by
  have h := run_storeCells_at P W.heap.size 0 t (regA y).toList 0 (regA x) (W.alloc (.cells (regA x) t)) (heap_alloc_new W _) (by simp [regA_size]) (regA_one y)
  have e : ((regA x).toList.take (0 + 0) ++ (regA y).toList ++ (regA x).toList.drop (0 + 0 + (regA y).toList.length)).toArray = regA y := by
    rw [Nat.add_zero, List.take_zero, List.nil_append, List.drop_of_length_le (by simp [regA_size]), List.append_nil, Array.toArray_toList]
  rw [e] at h
  rw [h]
  have e2 : (W.alloc (.cells (regA x) t)).setRow W.heap.size (regA y) = W.alloc (.cells (regA y) t) := by
    have e3 : ((W.alloc (.cells (regA x) t)).setRow W.heap.size (regA y)).heap = W.heap.push (.cells (regA y) t) := by
      apply Array.ext_getElem?
      intro i
      by_cases hi : i = W.heap.size
      · subst hi
        rw [setRow_heap _ _ (regA x) _ t (0, 0) (heap_alloc_new W _)]
        simp
      · rw [setRow_other _ _ _ _ hi, Array.getElem?_push, if_neg hi]
        show (W.heap.push _)[i]? = _
        rw [Array.getElem?_push, if_neg hi]
    have e4 : (W.alloc (.cells (regA x) t)).setRow W.heap.size (regA y) = { W with heap := ((W.alloc (.cells (regA x) t)).setRow W.heap.size (regA y)).heap } := rfl
    rw [e4, e3]
    rfl
  rw [e2]

/-- A registry and one value more as a call's results. -/
theorem results_reg2 {P : Program} {fn : Func} {p q : Tmp} {ty : TypeId} (h : fn.results = #[.cell p ty, .tmp q]) (tmps : Array Value) (w : World) (g : Nat) (t : TypeId) (x : Nat → Int) (d : TypeDesc) (v : Value)
    (hp : tmps.getD p undef = .pointer (some ⟨g, 0, none⟩)) (hq : tmps.getD q undef = v) (hg : RegAt w g t x)
    (hu : P.underlying ty = some d) (hd : d.isRow = true) (hi : (P.info? ty).map (·.size) = some 34) :
    (results fn tmps).run P w = .ok (.tuple #[.agg (regA x), v]) w := by
  have hp' : tmps[p]?.getD undef = .pointer (some ⟨g, 0, none⟩) := by simpa using hp
  have hq' : tmps[q]?.getD undef = v := by simpa using hq
  simp [results, h, hp', hq', asAddr, run_loadVar_row w g t ty (regA x) (0, 0) d hg hu (by cases d <;> simp_all) (by rw [regA_size]; exact hi)]

/-- A registry as a call's result. -/
theorem results_reg1 {P : Program} {fn : Func} {p : Tmp} {ty : TypeId} (h : fn.results = #[.cell p ty]) (tmps : Array Value) (w : World) (g : Nat) (t : TypeId) (x : Nat → Int) (d : TypeDesc)
    (hp : tmps.getD p undef = .pointer (some ⟨g, 0, none⟩)) (hg : RegAt w g t x)
    (hu : P.underlying ty = some d) (hd : d.isRow = true) (hi : (P.info? ty).map (·.size) = some 34) :
    (results fn tmps).run P w = .ok (.agg (regA x)) w :=
  results_cell_row h tmps w g t (regA x) (0, 0) d hp hg hu (by cases d <;> simp_all) (by rw [regA_size]; exact hi)

theorem Tryd.sizeReg : (Tryd.prog.info? 54).map (·.size) = some 34 := by kernel_rfl
theorem Tryd.sizeRegistry : (Tryd.prog.info? 92).map (·.size) = some 34 := by kernel_rfl
theorem Tryd.sizePowers : (Tryd.prog.info? 51).map (·.size) = some 8 := by kernel_rfl
theorem Tryd.sizeRoles : (Tryd.prog.info? 52).map (·.size) = some 26 := by kernel_rfl

/-- The empty registry, as the program lays it. -/
def reg0 : Nat → Int := fun _ => 0
theorem regA_zero : (#[.int .i64 0, .int .i64 0, .int .i64 0, .int .i64 0, .int .i64 0, .int .i64 0, .int .i64 0, .int .i64 0, .int .i64 0, .int .i64 0, .int .i64 0, .int .i64 0, .int .i64 0, .int .i64 0, .int .i64 0, .int .i64 0, .int .i64 0, .int .i64 0, .int .i64 0, .int .i64 0, .int .i64 0, .int .i64 0, .int .i64 0, .int .i64 0, .int .i64 0, .int .i64 0, .int .i64 0, .int .i64 0, .int .i64 0, .int .i64 0, .int .i64 0, .int .i64 0, .int .i64 0, .int .i64 0] : Array Value) = regA reg0 := by kernel_rfl

end Go.Proofs.YtcfjhbcpjpgodaaDoor
namespace Go.Proofs.YtcfjhbcpjpgodaaDoor
open Go.RowKit

/-- The registry of the first k powers. -/
def regOf (g : Nat → Int) (k : Nat) : Nat → Int := fun i => if i < k then g i else 0

theorem regOf_zero (g : Nat → Int) : regOf g 0 = reg0 := by funext i; simp [regOf, reg0]
theorem regOf_succ (g : Nat → Int) (k : Nat) : upd (regOf g k) k (g k) = regOf g (k + 1) := by
  funext i
  simp only [upd, regOf]
  by_cases h : i = k
  · subst h; simp
  · rw [if_neg h]
    by_cases h2 : i < k
    · rw [if_pos h2, if_pos (by omega)]
    · rw [if_neg h2, if_neg (by omega)]

/-- A genesis that is one, and its registry. -/
def genR (g : Nat → Int) (n : Nat) : (Nat → Int) × Bool := if n ≤ 8 ∧ ∀ i, i < n → 0 ≤ g i ∧ g i ≤ 9 then (regOf g n, decide (0 < sumTo g n)) else (reg0, false)

theorem genR_bad (g : Nat → Int) (n : Nat) (h : ¬ (n ≤ 8 ∧ ∀ i, i < n → 0 ≤ g i ∧ g i ≤ 9)) : genR g n = (reg0, false) := if_neg h
theorem genR_good (g : Nat → Int) (n : Nat) (h : n ≤ 8) (h2 : ∀ i, i < n → 0 ≤ g i ∧ g i ≤ 9) : genR g n = (regOf g n, decide (0 < sumTo g n)) := if_pos ⟨h, h2⟩

set_option maxRecDepth 100000 in
set_option maxHeartbeats 3200000 in
theorem genesis_any (g : Nat → Int) (p : Option Addr) (n cap : Nat) (w : World) (hl : Lies w w.heap.size p n (fun i => .int .i64 (g i))) :
    Calls Tryd.prog 27 #[.slice p n cap] w fun e w' => e = .returned (.tuple #[.agg (regA (genR g n).1), .bool (genR g n).2]) ∧ Below w.heap.size w w' := by
  have z0 := regA_zero
  have HL := hide hl
  clear hl
  go_enter Tryd.func27, Tryd.ntmps27
  go_wp2
  go_loopw [5, 6] (fun s i wr => ∃ k : Nat, k ≤ n ∧ k ≤ 8 ∧ (∀ j, j < k → 0 ≤ g j ∧ g j ≤ 9) ∧ i = .int .i64 k ∧ s = .int .i64 (sumTo g k) ∧ RegAt wr w.heap.size 54 reg0 ∧ RegAt wr (w.heap.size + 1) 54 (regOf g k) ∧ Below w.heap.size w wr) (fun _ i _ => n - (intOf i).toNat)
  case atStart =>
    refine ⟨0, by omega, by omega, fun j hj => by omega, rfl, rfl, ?_, ?_, ?_⟩
    · have h := (RegAt.alloc w 54 reg0).below ((Below.refl _ _).alloc (Nat.le_refl _) (.cells (regA reg0) 54))
      rw [← z0] at h ⊢
      exact h
    · have h := RegAt.alloc (w.alloc (.cells (regA reg0) 54)) 54 reg0
      rw [regOf_zero]
      simpa using h
    · exact ((Below.refl _ w).alloc (Nat.le_refl _) _).alloc (by simp) _
  case round =>
    obtain ⟨k, hk, hk8, hd, rfl, rfl, h1, h2, hb⟩ := hrel
    have HD := hide hd
    have HB := hide hb
    have H1 := hide h1
    have H2 := hide h2
    clear hd hb h1 h2
    by_cases hkn : k = n
    · subst hkn
      go_wp2_with (first | (refine wpList_load_reg rfl 54 _ rfl _ rfl 54 _ _ H2.out Tryd.underlying54 rfl Tryd.sizeReg ?_) | (refine wpList_store_reg rfl 54 _ _ rfl (w.heap.size) _ rfl rfl 54 _ H1.out (regA_size _) Tryd.sizeReg ?_; intro w2 hq ho))
      exact bodyPost_ret (v := .tuple #[.agg (regA (regOf g k)), .bool (decide (0 < sumTo g k))]) (results_reg2 Tryd.results27 _ _ w.heap.size 54 _ _ _ rfl rfl hq Tryd.underlying54 rfl Tryd.sizeReg) rfl ⟨by rw [genR_good g k hk8 HD.out], HB.out.trans (ho.below (Nat.le_refl _))⟩
    · have hlt : k < n := by omega
      have hki : (k : Int) < n := by omega
      obtain ⟨b, o, rfl, hbb, hc⟩ := HL.out k hlt
      have hcr := (HB.out.cell (p := ⟨b, o + k, none⟩) (by exact hbb)).trans hc
      clear hc hkn
      by_cases h8 : k = 8
      · subst h8
        have HR : genR g n = (reg0, false) := genR_bad g n (fun hh => by have := hh.1; omega)
        go_wp2_with (refine wpList_store_reg rfl 54 _ _ rfl (w.heap.size) reg0 rfl rfl 54 _ H1.out (regA_size _) Tryd.sizeReg ?_; intro w2 hq ho)
        exact bodyPost_ret (v := .tuple #[.agg (regA reg0), .bool false]) (results_reg2 Tryd.results27 _ _ w.heap.size 54 _ _ _ rfl rfl hq Tryd.underlying54 rfl Tryd.sizeReg) rfl ⟨by first | rfl | rw [HR], HB.out.trans (ho.below (Nat.le_refl _))⟩
      · have h8i : (k : Int) < 8 := by omega
        by_cases hneg : g k < 0
        · have HR : genR g n = (reg0, false) := genR_bad g n (fun hh => by have := hh.2 k hlt; omega)
          go_wp2_with (refine wpList_store_reg rfl 54 _ _ rfl (w.heap.size) reg0 rfl rfl 54 _ H1.out (regA_size _) Tryd.sizeReg ?_; intro w2 hq ho)
          exact bodyPost_ret (v := .tuple #[.agg (regA reg0), .bool false]) (results_reg2 Tryd.results27 _ _ w.heap.size 54 _ _ _ rfl rfl hq Tryd.underlying54 rfl Tryd.sizeReg) rfl ⟨by first | rfl | rw [HR], HB.out.trans (ho.below (Nat.le_refl _))⟩
        · by_cases hbig : 9 < g k
          · have HR : genR g n = (reg0, false) := genR_bad g n (fun hh => by have := hh.2 k hlt; omega)
            go_wp2_with (refine wpList_store_reg rfl 54 _ _ rfl (w.heap.size) reg0 rfl rfl 54 _ H1.out (regA_size _) Tryd.sizeReg ?_; intro w2 hq ho)
            exact bodyPost_ret (v := .tuple #[.agg (regA reg0), .bool false]) (results_reg2 Tryd.results27 _ _ w.heap.size 54 _ _ _ rfl rfl hq Tryd.underlying54 rfl Tryd.sizeReg) rfl ⟨by first | rfl | rw [HR], HB.out.trans (ho.below (Nat.le_refl _))⟩
          · have hsb := sumTo_bound g k HD.out
            have hcell := H2.out.cell k (by omega)
            have hfz := H2.out.frozen k
            have hcr2 : (wr.setCell ⟨w.heap.size + 1, k, none⟩ (.int .i64 (g k))).cell? ⟨b, o + k, none⟩ = some (.int .i64 (g k)) := by
              rw [← hcr]
              exact World.cell?_of_block (by simp [World.setCell, Array.getElem?_modify]; omega)
            go_wp2
            go_roundw
            case rel =>
              refine ⟨k + 1, by omega, by omega, fun j hj => ?_, by go_num, rfl, ?_, ?_, ?_⟩
              · by_cases hj2 : j < k
                · exact HD.out j hj2
                · obtain rfl : j = k := by omega
                  omega
              · exact H1.out.only (only_setCell _ _ _ _) (by omega)
              · rw [← regOf_succ]
                exact H2.out.set k (g k) (by omega)
              · exact HB.out.trans ((only_setCell _ _ _ _).below (by omega))
            case measure => simp [intOf]; omega

end Go.Proofs.YtcfjhbcpjpgodaaDoor
