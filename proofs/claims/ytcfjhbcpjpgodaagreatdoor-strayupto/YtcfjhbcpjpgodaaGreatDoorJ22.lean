/- Proved here: a key's id and ring. -/
import Derived.Test.YtcfjhbcpjpgodaaGreatDoorJ4
import Derived.Test.YtcfjhbcpjpgodaaGreatDoorBase
import Derived.BigQuiet
import Derived.Deep.MidRow
namespace Go.Proofs.YtcfjhbcpjpgodaaGreatDoor
open Go.RowKit

theorem keyId_any (kb rb i : Nat) (w : World) (h : KeyAt w kb rb i) : Calls Tryz.prog 144 #[.pointer (some ⟨kb, 0, none⟩)] w fun e w' => e = .returned (.int .i64 (i : Int)) ∧ w' = w := by
 have hk1 : w.cell? ⟨kb, 1, none⟩ = some (.int .i64 (i : Int)) := cell_of_row w kb 1 _ _ _ h
 clear h
 go_enter Tryz.func144, Tryz.ntmps144
 go_wp2
 go_ret
 exact ⟨rfl, rfl⟩
theorem keyRing_any (kb rb i : Nat) (w : World) (h : KeyAt w kb rb i) : Calls Tryz.prog 78 #[.pointer (some ⟨kb, 0, none⟩)] w fun e w' => e = .returned (.pointer (some ⟨rb, 0, none⟩)) ∧ w' = w := by
 have hk0 : w.cell? ⟨kb, 0, none⟩ = some (.pointer (some ⟨rb, 0, none⟩)) := cell_of_row w kb 0 _ _ _ h
 clear h
 go_enter Tryz.func78, Tryz.ntmps78
 go_wp2
 go_ret
 exact ⟨rfl, rfl⟩

structure Ext (w : World) where
 W : World
 b : Below w.heap.size w W

theorem Ext.ne (w : World) : Nonempty (Ext w) := ⟨⟨w, Below.refl _ w⟩⟩
def Ext.of {w W : World} (h : Below w.heap.size w W) : Ext w := ⟨W, h⟩
theorem Ext.cell {w : World} {p : Addr} {v : Value} (h : w.cell? p = some v) (u : Ext w) : u.W.cell? p = some v := (u.b.cell (World.block_lt_of_cell? _ _ h)).trans h
theorem Ext.range {w : World} {b o : Nat} {l : List Value} (h : w.rangeAt b o l) (u : Ext w) : u.W.rangeAt b o l := fun j v hv => Ext.cell (h j v hv) u

section
variable {P : Program}
theorem Calls.ext {f : FuncId} {args : Array Value} {w : World} (u : Ext w) {v : Value} (h : Calls P f args u.W fun e w' => e = .returned v ∧ Below u.W.heap.size u.W w') : Calls P f args u.W fun e w'' => e = .returned v ∧ ∃ u' : Ext w, w'' = u'.W :=
 h.mono fun _ w' ⟨he, hb⟩ => ⟨he, ⟨w', u.b.trans (hb.mono u.b.size)⟩, rfl⟩
theorem Calls.extSame {f : FuncId} {args : Array Value} {w : World} (u : Ext w) {v : Value} (h : Calls P f args u.W fun e w' => e = .returned v ∧ w' = u.W) : Calls P f args u.W fun e w'' => e = .returned v ∧ ∃ u' : Ext w, w'' = u'.W :=
 h.mono fun _ _ ⟨he, hb⟩ => ⟨he, u, hb⟩

theorem wp_region_ext {id : Nat} {Q : Exit → Act → World → Prop} {a : Act} {w : World} {l : List Oper} (hm : P.follows .mixedOrders = true) (hB : Region.lexB .any l.toArray = true)
 (h : wpQuiet P l.toArray (fun w' => ∃ u : Ext w, w' = u.W) (fun a' => ∀ w', (∃ u : Ext w, w' = u.W) → Q .normal a' w') l a) : (Code.region id l.toArray true).wp P Q a w :=
 wp_region_quiet (C := fun w' => ∃ u : Ext w, w' = u.W) hm hB ⟨⟨w.drew, (Below.refl _ w).drew⟩, rfl⟩ (by simpa using h)

theorem quiet_load_mid {o : Oper} {a : Act} {w : World} {K : Act → Prop} (d : Option Tmp) (hd : o.dst = d) (ty : TypeId) (x : Operand) (ho : o.op = .load ty x) (b off : Nat) (hx : a.eval x = .pointer (some ⟨b, off, none⟩)) (cs : List Value) (t : TypeDesc) (hS : ∀ u : Ext w, u.W.rangeAt b off cs)
 (hu : P.underlying ty = some t) (ht : t.isRow = true) (hi : (P.info? ty).map (·.size) = some cs.length) (hk : K (a.put d (.agg cs.toArray))) : o.quiet P a (fun w' => ∃ u : Ext w, w' = u.W) K := by
 subst hd
 refine ⟨_, fun W hW => ?_, hk⟩
 obtain ⟨u, rfl⟩ := hW
 unfold Oper.quietAt execOp
 simp only [ho, hx, Instr.loadAt, Instr.sureAddr, Sem.run_bind, Sem.run_pure, Result.andThen_ok, run_loadVar_mid u.W b off ty cs t (hS u) hu ht hi]
 exact ⟨rfl, rfl⟩
end

end Go.Proofs.YtcfjhbcpjpgodaaGreatDoor
