/- Proved here: how a whole registry is loaded and stored: laws for the walk, over worlds that are letters. -/
import Derived.Test.YtcfjhbcpjpgodaaGreatDoorJ7
import Derived.Laws.CopyRow
import Derived.Deep.RegionHeld
import Derived.Deep.DeepCutAuto
namespace Go.Proofs.YtcfjhbcpjpgodaaGreatDoor
open Go.RowKit

theorem RegAt.only {w w' : World} {g g' : Nat} {t : TypeId} {x : Nat → Int} (h : RegAt w g t x) (ho : Only g' w w') (hg : g ≠ g') : RegAt w' g t x := by
 unfold RegAt at h ⊢
 rw [ho.block g hg]
 exact h
theorem RegAt.drew {w : World} {g : Nat} {t : TypeId} {x : Nat → Int} (h : RegAt w g t x) : RegAt w.drew g t x := h
theorem RegAt.below {w w' : World} {g : Nat} {t : TypeId} {x : Nat → Int} (h : RegAt w g t x) (hb : Below w.heap.size w w') : RegAt w' g t x := h.later hb h.lt

theorem regA_one (x : Nat → Int) : ∀ v ∈ (regA x).toList, v.oneCell' = true := by
 intro v hv
 simp only [regA, regL, List.toList_toArray, List.mem_map] at hv
 obtain ⟨i, _, rfl⟩ := hv
 rfl

section
variable {P : Program}

theorem run_storeVar_row (w : World) (g : Nat) (t ty : TypeId) (C : Array Value) (x : Nat → Int) (hg : w.heap[g]? = some (.cells C t (0, 0))) (hC : C.size = 34) (hi : (P.info? ty).map (·.size) = some 34) :
 (storeVar ty ⟨g, 0, none⟩ (.agg (regA x))).run P w = .ok () (w.setRow g (regA x)) := by
 have h := run_storeCells_at P g 0 t (regA x).toList 0 C w hg (by simp [regA_size, hC]) (regA_one x)
 have e : (C.toList.take (0 + 0) ++ (regA x).toList ++ C.toList.drop (0 + 0 + (regA x).toList.length)).toArray = regA x := by
  rw [Nat.add_zero, List.take_zero, List.nil_append, List.drop_of_length_le (by simp [regA_size, hC]), List.append_nil, Array.toArray_toList]
 rw [e] at h
 cases hq : P.info? ty with
 | none => simp [hq] at hi
 | some i =>
  have hs : i.size = 34 := by simpa [hq] using hi
  simp [storeVar, sizeOf, typeInfo, hq, Value.cells, hs, regA_size, h]

theorem wp_store_reg {op : Oper} {a : Act} {w : World} {K : Act → World → Prop} {Q : Exit → Act → World → Prop} (ty : TypeId) (p y : Operand) (ho : op.op = .store ty p y)
 (g : Nat) (x : Nat → Int) (hp : a.eval p = .pointer (some ⟨g, 0, none⟩)) (hy : a.eval y = .agg (regA x)) (t : TypeId) (C : Array Value) (hg : w.heap[g]? = some (.cells C t (0, 0))) (hC : C.size = 34) (hi : (P.info? ty).map (·.size) = some 34)
 (h : ∀ w', RegAt w' g t x → Only g w w' → K (a.put op.dst undef) w') : op.wp P a w K Q := by
 unfold Oper.wp execOp
 simp only [ho, hp, hy, Instr.storeAt, Instr.sureAddr, Sem.run_bind, Sem.run_pure, Result.andThen_ok, run_storeVar_row w g t ty C x hg hC hi]
 exact h _ (setRow_heap _ _ C _ t (0, 0) hg) (only_setRow _ _ _)

theorem wpList_store_reg {ops : Array Oper} {rest : List Oper} {op : Oper} {a : Act} {w : World} {Q : Exit → Act → World → Prop} (hgd : op.guard = none) (ty : TypeId) (p y : Operand) (ho : op.op = .store ty p y)
 (g : Nat) (x : Nat → Int) (hp : a.eval p = .pointer (some ⟨g, 0, none⟩)) (hy : a.eval y = .agg (regA x)) (t : TypeId) (C : Array Value) (hg : w.heap[g]? = some (.cells C t (0, 0))) (hC : C.size = 34) (hi : (P.info? ty).map (·.size) = some 34)
 (h : ∀ w', RegAt w' g t x → Only g w w' → wpList P ops Q rest (a.put op.dst undef) w') : wpList P ops Q (op :: rest) a w :=
 wpList_plain hgd fun _ hK => wp_store_reg ty p y ho g x hp hy t C hg hC hi fun w' h1 h2 => hK _ _ (h w' h1 h2)

theorem wpList_load_reg {ops : Array Oper} {rest : List Oper} {op : Oper} {a : Act} {w : World} {Q : Exit → Act → World → Prop} (hgd : op.guard = none) (ty : TypeId) (p : Operand) (ho : op.op = .load ty p)
 (g : Nat) (hp : a.eval p = .pointer (some ⟨g, 0, none⟩)) (t : TypeId) (x : Nat → Int) (d : TypeDesc) (hg : RegAt w g t x) (hu : P.underlying ty = some d) (hd : d.isRow = true) (hi : (P.info? ty).map (·.size) = some 34)
 (h : wpList P ops Q rest (a.put op.dst (.agg (regA x))) w) : wpList P ops Q (op :: rest) a w :=
 wpList_load_row hgd ty p ho g hp t (regA x) (0, 0) d hg hu (by cases d <;> simp_all) (by rw [regA_size]; exact hi) h

theorem RegAt.range {w : World} {g : Nat} {t : TypeId} {x : Nat → Int} (h : RegAt w g t x) : w.rangeAt g 0 (regL x) := fun j v hv => by
 have hj : j < 34 := by have := (List.getElem?_eq_some_iff.1 hv).1; simpa [regL] using this
 rw [Nat.zero_add, h.cell j hj]
 have : (regL x)[j]? = some (.int .i64 (x j)) := by simp [regL, hj]
 rw [this] at hv
 exact hv

theorem yields_load_reg {ops : Array Oper} {S : World → Prop} {op : Oper} {a : Act} (hw : Region.wanted op (yielded ops a.tmps) = true) (ty : TypeId) (p : Operand) (ho : op.op = .load ty p)
 (g : Nat) (hp : a.eval p = .pointer (some ⟨g, 0, none⟩)) (t : TypeId) (x : Nat → Int) (d : TypeDesc) (hS : ∀ w, S w → RegAt w g t x) (hu : P.underlying ty = some d) (hd : d.isRow = true) (hi : (P.info? ty).map (·.size) = some 34) :
 YieldsIf P ops S op (.agg (regA x)) a :=
 yieldsIf_load_mid hw ty p ho g 0 hp (regL x) d (fun w h => (hS w h).range) hu hd (by rw [hi]; simp [regL])

end

theorem results_reg2 {P : Program} {fn : Func} {p q : Tmp} {ty : TypeId} (h : fn.results = #[.cell p ty, .tmp q]) (tmps : Array Value) (w : World) (g : Nat) (t : TypeId) (x : Nat → Int) (d : TypeDesc) (v : Value)
 (hp : tmps.getD p undef = .pointer (some ⟨g, 0, none⟩)) (hq : tmps.getD q undef = v) (hg : RegAt w g t x)
 (hu : P.underlying ty = some d) (hd : d.isRow = true) (hi : (P.info? ty).map (·.size) = some 34) :
 (results fn tmps).run P w = .ok (.tuple #[.agg (regA x), v]) w := by
 have hp' : tmps[p]?.getD undef = .pointer (some ⟨g, 0, none⟩) := by simpa using hp
 have hq' : tmps[q]?.getD undef = v := by simpa using hq
 simp [results, h, hp', hq', asAddr, run_loadVar_row w g t ty (regA x) (0, 0) d hg hu (by cases d <;> simp_all) (by rw [regA_size]; exact hi)]

theorem results_reg1 {P : Program} {fn : Func} {p : Tmp} {ty : TypeId} (h : fn.results = #[.cell p ty]) (tmps : Array Value) (w : World) (g : Nat) (t : TypeId) (x : Nat → Int) (d : TypeDesc)
 (hp : tmps.getD p undef = .pointer (some ⟨g, 0, none⟩)) (hg : RegAt w g t x)
 (hu : P.underlying ty = some d) (hd : d.isRow = true) (hi : (P.info? ty).map (·.size) = some 34) :
 (results fn tmps).run P w = .ok (.agg (regA x)) w :=
 results_cell_row h tmps w g t (regA x) (0, 0) d hp hg hu (by cases d <;> simp_all) (by rw [regA_size]; exact hi)

theorem Tryz.sizeRegistry : (Tryz.prog.info? 116).map (·.size) = some 34 := by kernel_rfl
theorem Tryz.sizePowers : (Tryz.prog.info? 46).map (·.size) = some 8 := by kernel_rfl
theorem Tryz.sizeRoles : (Tryz.prog.info? 47).map (·.size) = some 26 := by kernel_rfl

def reg0 : Nat → Int := fun _ => 0
theorem regA_zero : (#[.int .i64 0, .int .i64 0, .int .i64 0, .int .i64 0, .int .i64 0, .int .i64 0, .int .i64 0, .int .i64 0, .int .i64 0, .int .i64 0, .int .i64 0, .int .i64 0, .int .i64 0, .int .i64 0, .int .i64 0, .int .i64 0, .int .i64 0, .int .i64 0, .int .i64 0, .int .i64 0, .int .i64 0, .int .i64 0, .int .i64 0, .int .i64 0, .int .i64 0, .int .i64 0, .int .i64 0, .int .i64 0, .int .i64 0, .int .i64 0, .int .i64 0, .int .i64 0, .int .i64 0, .int .i64 0] : Array Value) = regA reg0 := by kernel_rfl

def regOf (g : Nat → Int) (k : Nat) : Nat → Int := fun i => if i < k then g i else 0

theorem regOf_zero (g : Nat → Int) : regOf g 0 = reg0 := by funext i; simp [regOf, reg0]
theorem regOf_succ (g : Nat → Int) (k : Nat) : upd (regOf g k) k (g k) = regOf g (k + 1) := by
 funext i
 simp only [upd, regOf]
 by_cases h : i = k
 · subst h; simp
 · rw [if_neg h]
   by_cases h2 : i < k
   · rw [if_pos h2, if_pos (by omega)]
   · rw [if_neg h2, if_neg (by omega)]

def genR (g : Nat → Int) (n : Nat) : (Nat → Int) × Bool := if n ≤ 8 ∧ ∀ i, i < n → 0 ≤ g i ∧ g i ≤ 9 then (regOf g n, decide (0 < sumTo g n)) else (reg0, false)

theorem genR_bad (g : Nat → Int) (n : Nat) (h : ¬ (n ≤ 8 ∧ ∀ i, i < n → 0 ≤ g i ∧ g i ≤ 9)) : genR g n = (reg0, false) := if_neg h
theorem genR_good (g : Nat → Int) (n : Nat) (h : n ≤ 8) (h2 : ∀ i, i < n → 0 ≤ g i ∧ g i ≤ 9) : genR g n = (regOf g n, decide (0 < sumTo g n)) := if_pos ⟨h, h2⟩

end Go.Proofs.YtcfjhbcpjpgodaaGreatDoor
