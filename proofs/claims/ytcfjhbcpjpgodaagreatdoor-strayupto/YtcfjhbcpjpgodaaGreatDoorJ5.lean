/- Proved here: laws for whole rows: one stored into a block that has just been made; results that lie in memory; blocks behind several stores. -/
import Derived.Test.YtcfjhbcpjpgodaaGreatDoorBase
import Derived.Test.YtcfjhbcpjpgodaaGreatDoorJ2
import Derived.Test.YtcfjhbcpjpgodaaGreatDoorJ4
namespace Go.Proofs.YtcfjhbcpjpgodaaGreatDoor
open Go.RowKit

theorem results_rowG2 {P : Program} {fn : Func} {p q : Tmp} {ty : TypeId} (h : fn.results = #[.cell p ty, .tmp q]) (tmps : Array Value) (w : World) (g : Nat) (t : TypeId) (cs : Array Value) (d : TypeDesc) (v : Value)
 (hp : tmps.getD p undef = .pointer (some ⟨g, 0, none⟩)) (hq : tmps.getD q undef = v) (hg : w.heap[g]? = some (.cells cs t (0, 0)))
 (hu : P.underlying ty = some d) (hd : d.isRow = true) (hi : (P.info? ty).map (·.size) = some cs.size) :
 (results fn tmps).run P w = .ok (.tuple #[.agg cs, v]) w := by
 have hp' : tmps[p]?.getD undef = .pointer (some ⟨g, 0, none⟩) := by simpa using hp
 have hq' : tmps[q]?.getD undef = v := by simpa using hq
 simp [results, h, hp', hq', asAddr, run_loadVar_row w g t ty cs (0, 0) d hg hu (by cases d <;> simp_all) hi]

theorem results_rowG1 {P : Program} {fn : Func} {p : Tmp} {ty : TypeId} (h : fn.results = #[.cell p ty]) (tmps : Array Value) (w : World) (g : Nat) (t : TypeId) (cs : Array Value) (d : TypeDesc)
 (hp : tmps.getD p undef = .pointer (some ⟨g, 0, none⟩)) (hg : w.heap[g]? = some (.cells cs t (0, 0)))
 (hu : P.underlying ty = some d) (hd : d.isRow = true) (hi : (P.info? ty).map (·.size) = some cs.size) :
 (results fn tmps).run P w = .ok (.agg cs) w := by
 have hp' : tmps[p]?.getD undef = .pointer (some ⟨g, 0, none⟩) := by simpa using hp
 simp [results, h, hp', asAddr, run_loadVar_row w g t ty cs (0, 0) d hg hu (by cases d <;> simp_all) hi]

section
variable {P : Program}
theorem wpList_store_new {ops : Array Oper} {rest : List Oper} {op : Oper} {a : Act} {Q : Exit → Act → World → Prop} (hgd : op.guard = none) (ty : TypeId) (p y : Operand) (ho : op.op = .store ty p y)
 (w1 : World) (D : Array Value) (hp : a.eval p = .pointer (some ⟨w1.heap.size, 0, none⟩)) (hy : a.eval y = .agg D) (t : TypeId) (C : Array Value) (hC : C.size = D.size) (h1 : ∀ v ∈ D.toList, v.oneCell' = true) (hi : (P.info? ty).map (·.size) = some D.size)
 (h : ∀ w', w'.heap[w1.heap.size]? = some (.cells D t (0, 0)) → Below w1.heap.size w1 w' → w'.heap.size = w1.heap.size + 1 → wpList P ops Q rest (a.put op.dst undef) w') : wpList P ops Q (op :: rest) a (w1.alloc (.cells C t)) :=
 wpList_store_rowG hgd ty p y ho w1.heap.size D hp hy t C (heap_alloc_new w1 _) hC h1 hi fun w' hq ho => h w' hq (((Below.refl _ w1).alloc (Nat.le_refl _) _).trans (ho.below (Nat.le_refl _))) (by rw [ho.size]; simp)
end

theorem own_keep {w w' : World} {base e size n : Nat} {v : Value} {xs : List Value} (h : w.ownsRow base e size v n xs) (hb : Below w.heap.size w w') : w'.ownsRow base e size v n xs := own_blocks h (fun g _ hg => hb.block g hg)

theorem blk {w w' : World} {g : Nat} {o : Obj} (h : w.heap[g]? = some o) (hb : Below w.heap.size w w') : w'.heap[g]? = some o := (hb.block g (row_lt0 h)).trans h

end Go.Proofs.YtcfjhbcpjpgodaaGreatDoor
