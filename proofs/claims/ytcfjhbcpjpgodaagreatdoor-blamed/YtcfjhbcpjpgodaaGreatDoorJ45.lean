/- Proved here: what errors.As answers at the target that the program hands it (a variable that points to an api.Refused): true, and that variable holds the error; nothing old has turned. · Proved here: what the program's why takes out of an api.Refused: the error that it wraps. -/
import Derived.Test.YtcfjhbcpjpgodaaGreatDoorBase
import Derived.LaidEql
import Derived.Stop.Asserts
import Derived.RowKitTokens
import Derived.Test.YtcfjhbcpjpgodaaGreatDoorJ23
namespace Go.Proofs.YtcfjhbcpjpgodaaGreatDoor
open Go.RowKit Go.Extern.Stop Go.Stop Go.Extern

theorem Tryz.asvalueOf27 (t : Addr) (w : World) : (ReflectliteValue.unpack (.iface 201 (.pointer (some t)))).run Tryz.prog w
    = .ok (.agg #[.pointer (some ⟨16, 201, none⟩), .pointer (some ⟨w.heap.size, 0, none⟩), .int .u64 150]) (w.alloc (.cells #[.pointer (some t)] 201)) := by kernel_rfl
theorem Tryz.astype27 (a : Addr) (w : World) : (ReflectliteValue.methodAny (ReflectliteValue.valueError "reflectlite.Value.Type" 0) (fun t _ _ _ => ReflectliteType.toType t) #[.agg #[.pointer (some ⟨16, 201, none⟩), .pointer (some a), .int .u64 150]]).run Tryz.prog w
    = .ok (.iface 211 (.agg #[.pointer (some ⟨16, 201, none⟩)])) w := by kernel_rfl
theorem Tryz.asmethodKind (h : Value) (w : World) : (Go.method 423 211 (.agg #[h]) "Kind").run Tryz.prog w = .ok (232, h) w := by kernel_rfl
theorem Tryz.askind27 (w : World) : ((ReflectliteType.abiMethod fun t => Functor.map (fun a : Nat => Value.int IntKind.u8 (a : Int)) (Rtype.kind t)) #[.pointer (some ⟨16, 201, none⟩)]).run Tryz.prog w = .ok (.int .u8 22) w := by kernel_rfl
theorem Tryz.askind25 (w : World) : ((ReflectliteType.abiMethod fun t => Functor.map (fun a : Nat => Value.int IntKind.u8 (a : Int)) (Rtype.kind t)) #[.pointer (some ⟨16, 158, none⟩)]).run Tryz.prog w = .ok (.int .u8 22) w := by kernel_rfl

theorem rlm (z : Sem Value) (f : TypeId → Addr → Nat → Nat → Sem Value) (v : Value) :
    ReflectliteValue.method z f #[v] = (do match ← ReflectliteValue.parts v with | none => z | some (t, a, fl) => f t a fl (fl % 32)) := rfl
theorem Tryz.asparts27 (a : Addr) (w : World) : (ReflectliteValue.parts (.agg #[.pointer (some ⟨16, 201, none⟩), .pointer (some a), .int .u64 150])).run Tryz.prog w = .ok (some (201, a, 150)) w := by kernel_rfl
theorem Tryz.asisNil27 (a p : Addr) (W : World) (ha : W.cell? a = some (.pointer (some p))) :
    (ReflectliteValue.method (ReflectliteValue.valueError "reflectlite.Value.IsNil" 0) ReflectliteValue.isNil #[.agg #[.pointer (some ⟨16, 201, none⟩), .pointer (some a), .int .u64 150]]).run Tryz.prog W = .ok (.bool false) W := by
  rw [rlm]
  simp only [Sem.run_bind, Tryz.asparts27, Result.andThen]
  simp [ReflectliteValue.isNil, loadVar, isAgg, underlying, Tryz.underlying201, ha, Result.andThen]

theorem Tryz.asmethodElem (h : Value) (w : World) : (Go.method 423 211 (.agg #[h]) "Elem").run Tryz.prog w = .ok (240, .agg #[h]) w := by kernel_rfl
theorem Tryz.asmethodImplements (h : Value) (w : World) : (Go.method 423 211 (.agg #[h]) "Implements").run Tryz.prog w = .ok (241, .agg #[h]) w := by kernel_rfl
theorem Tryz.asmethodAssignableTo (h : Value) (w : World) : (Go.method 423 211 (.agg #[h]) "AssignableTo").run Tryz.prog w = .ok (238, .agg #[h]) w := by kernel_rfl
theorem Tryz.aselem27 (w : World) : (ReflectliteType.method ReflectliteType.elem #[.agg #[.pointer (some ⟨16, 201, none⟩)]]).run Tryz.prog w = .ok (.iface 211 (.agg #[.pointer (some ⟨16, 158, none⟩)])) w := by kernel_rfl
theorem Tryz.asimplements25 (w : World) : (ReflectliteType.relation "Implements" ReflectliteType.implements_ #[.agg #[.pointer (some ⟨16, 158, none⟩)], .iface 211 (.agg #[.pointer (some ⟨16, 42, none⟩)])]).run Tryz.prog w = .ok (.bool true) w := by kernel_rfl
theorem Tryz.astypeOf25 (v : Value) (w : World) : (ReflectliteType.typeOf #[.iface 158 v]).run Tryz.prog w = .ok (.iface 211 (.agg #[.pointer (some ⟨16, 158, none⟩)])) w := by kernel_rfl
theorem Tryz.asassignable25 (w : World) : (ReflectliteType.relation "AssignableTo" ReflectliteType.assignableTo #[.agg #[.pointer (some ⟨16, 158, none⟩)], .iface 211 (.agg #[.pointer (some ⟨16, 158, none⟩)])]).run Tryz.prog w = .ok (.bool true) w := by kernel_rfl
theorem Tryz.asvalueOf25 (e : Addr) (w : World) : (ReflectliteValue.unpack (.iface 158 (.pointer (some e)))).run Tryz.prog w
    = .ok (.agg #[.pointer (some ⟨16, 158, none⟩), .pointer (some ⟨w.heap.size, 0, none⟩), .int .u64 150]) (w.alloc (.cells #[.pointer (some e)] 158)) := by kernel_rfl

theorem Tryz.aselemOf27 (w : World) : (Rtype.elem? 201).run Tryz.prog w = .ok (some 158) w := by kernel_rfl
theorem Tryz.asmk25 (p : Addr) (w : World) : (ReflectliteValue.mk 158 p ReflectliteValue.flagAddr).run Tryz.prog w = .ok (.agg #[.pointer (some ⟨16, 158, none⟩), .pointer (some p), .int .u64 406]) w := by kernel_rfl
theorem Tryz.aselemV27 (a p : Addr) (W : World) (ha : W.cell? a = some (.pointer (some p))) :
    (ReflectliteValue.method (ReflectliteValue.valueError "reflectlite.Value.Elem" 0) ReflectliteValue.elem #[.agg #[.pointer (some ⟨16, 201, none⟩), .pointer (some a), .int .u64 150]]).run Tryz.prog W
      = .ok (.agg #[.pointer (some ⟨16, 158, none⟩), .pointer (some p), .int .u64 406]) W := by
  rw [rlm]
  simp only [Sem.run_bind, Tryz.asparts27, Result.andThen]
  simp [ReflectliteValue.elem, loadVar, isAgg, underlying, Tryz.underlying201, ha, Result.andThen, Tryz.aselemOf27, Tryz.asmk25]
theorem rls (v x : Value) : ReflectliteValue.set #[v, x] = (do
    let (some (dst, a, fl), some (src, b, _)) := (← ReflectliteValue.parts v, ← ReflectliteValue.parts x)
      | unsupported (.noEntry "extern/(internal/reflectlite.Value).Set.zeroValue")
    if fl / ReflectliteValue.flagAddr % 2 == 0 then unsupported (.noEntry "extern/(internal/reflectlite.Value).Set.unaddressable")
    let val ← loadVar src b
    if ← Rtype.directlyAssignable dst src then storeVar dst a val
    else if ← Rtype.implements dst src then
      if (← Rtype.kind src) == 20 then
        match val with
        | .nilIface => unsupported (.noEntry "extern/reflectlite: a nil value of one interface type handed on as a value of another")
        | _ => storeVar dst a val
      else storeVar dst a (.iface src val)
    else panicString ("reflectlite.Set: value of type " ++ (← Rtype.spelt src) ++ " is not assignable to type " ++ (← Rtype.spelt dst))
    pure (.tuple #[])) := rfl
theorem Tryz.asparts25a (a : Addr) (w : World) : (ReflectliteValue.parts (.agg #[.pointer (some ⟨16, 158, none⟩), .pointer (some a), .int .u64 406])).run Tryz.prog w = .ok (some (158, a, 406)) w := by kernel_rfl
theorem Tryz.asparts25 (a : Addr) (w : World) : (ReflectliteValue.parts (.agg #[.pointer (some ⟨16, 158, none⟩), .pointer (some a), .int .u64 150])).run Tryz.prog w = .ok (some (158, a, 150)) w := by kernel_rfl
theorem Tryz.asdirect25 (w : World) : (Rtype.directlyAssignable 158 158).run Tryz.prog w = .ok true w := by kernel_rfl
theorem Tryz.asset25 (ta b e : Addr) (old : Value) (W : World) (hb : W.cell? b = some (.pointer (some e))) (ht : W.cell? ta = some old) (hf : W.frozen? ta = false) :
    (ReflectliteValue.set #[.agg #[.pointer (some ⟨16, 158, none⟩), .pointer (some ta), .int .u64 406], .agg #[.pointer (some ⟨16, 158, none⟩), .pointer (some b), .int .u64 150]]).run Tryz.prog W
      = .ok (.tuple #[]) (W.setCell ta (.pointer (some e))) := by
  rw [rls]
  simp only [Sem.run_bind, Tryz.asparts25a, Tryz.asparts25, Result.andThen]
  simp [ReflectliteValue.flagAddr, loadVar, isAgg, underlying, Tryz.underlying158, hb, Result.andThen, Tryz.asdirect25, storeVar, Value.cells, storeCells, Addr.add]
  rw [run_store Tryz.prog W ta _ _ (by rfl)]
  simp [ht, hf]

set_option maxHeartbeats 4000000 in
theorem as_hit (e t : Addr) (old : Value) (w : World) (hg : w.cell? ⟨12, 0, none⟩ = some (.iface 211 (.agg #[.pointer (some ⟨16, 42, none⟩)]))) (ht0 : w.cell? t = some old) (hf0 : w.frozen? t = false) :
    Calls Tryz.prog 120 #[.iface 158 (.pointer (some e)), .iface 201 (.pointer (some t))] w fun ev w' => ev = .returned (.bool true) ∧ w' = ((((w.alloc (.cells #[.pointer (some t)] 201)).alloc (.cells #[.pointer (some ⟨16, 201, none⟩), .pointer (some ⟨w.heap.size, 0, none⟩), .int .u64 150] 252)).alloc (.cells #[.pointer (some ⟨16, 201, none⟩), .pointer (some ⟨w.heap.size, 0, none⟩), .int .u64 150] 252)).alloc (.cells #[.pointer (some e)] 158)).setCell t (.pointer (some e)) := by
  have h6 := @run_callFunc_extern Tryz.prog 172 _ (fun args => ReflectliteValue.unpack (args.getD 0 (.tuple #[]))) Tryz.func172 (by kernel_rfl) (by kernel_rfl) (by kernel_rfl) (by kernel_rfl)
  have h7 := @run_callFunc_extern Tryz.prog 173 _ (ReflectliteValue.methodAny (ReflectliteValue.valueError "reflectlite.Value.Type" 0) (fun t _ _ _ => ReflectliteType.toType t)) Tryz.func173 (by kernel_rfl) (by kernel_rfl) (by kernel_rfl) (by kernel_rfl)
  have h8 := @run_callFunc_extern Tryz.prog 174 _ (ReflectliteValue.method (ReflectliteValue.valueError "reflectlite.Value.IsNil" 0) ReflectliteValue.isNil) Tryz.func174 (by kernel_rfl) (by kernel_rfl) (by kernel_rfl) (by kernel_rfl)
  have h27 := @run_callFunc_extern Tryz.prog 232 _ (ReflectliteType.abiMethod fun t => do pure (.int .u8 (← Rtype.kind t))) Tryz.func232 (by kernel_rfl) (by kernel_rfl) (by kernel_rfl) (by kernel_rfl)
  have h37 := @run_callFunc_extern Tryz.prog 240 _ (ReflectliteType.method ReflectliteType.elem) Tryz.func240 (by kernel_rfl) (by kernel_rfl) (by kernel_rfl) (by kernel_rfl)
  have h38 := @run_callFunc_extern Tryz.prog 241 _ (ReflectliteType.relation "Implements" ReflectliteType.implements_) Tryz.func241 (by kernel_rfl) (by kernel_rfl) (by kernel_rfl) (by kernel_rfl)
  have h10 := @run_callFunc_extern Tryz.prog 83 _ ReflectliteType.typeOf Tryz.func83 (by kernel_rfl) (by kernel_rfl) (by kernel_rfl) (by kernel_rfl)
  have h35 := @run_callFunc_extern Tryz.prog 238 _ (ReflectliteType.relation "AssignableTo" ReflectliteType.assignableTo) Tryz.func238 (by kernel_rfl) (by kernel_rfl) (by kernel_rfl) (by kernel_rfl)
  have h11 := @run_callFunc_extern Tryz.prog 195 _ (ReflectliteValue.method (ReflectliteValue.valueError "reflectlite.Value.Elem" 0) ReflectliteValue.elem) Tryz.func195 (by kernel_rfl) (by kernel_rfl) (by kernel_rfl) (by kernel_rfl)
  have h12 := @run_callFunc_extern Tryz.prog 196 _ ReflectliteValue.set Tryz.func196 (by kernel_rfl) (by kernel_rfl) (by kernel_rfl) (by kernel_rfl)
  have tO := Tryz.astypeOf25
  have mA := Tryz.asmethodAssignableTo
  have a25 := Tryz.asassignable25
  have v25 := Tryz.asvalueOf25
  have f6 := Tryz.asvalueOf27
  have f7 := Tryz.astype27
  have mK := Tryz.asmethodKind
  have mE := Tryz.asmethodElem
  have mI := Tryz.asmethodImplements
  have k27 := Tryz.askind27
  have k25 := Tryz.askind25
  have e27 := Tryz.aselem27
  have i25 := Tryz.asimplements25
  have n8 := Tryz.asisNil27 ⟨w.heap.size, 0, none⟩ t ((w.alloc (.cells #[.pointer (some t)] 201)).alloc (.cells #[.pointer (some ⟨16, 201, none⟩), .pointer (some ⟨w.heap.size, 0, none⟩), .int .u64 150] 252)) (by simp)
  have hlt : 12 < w.heap.size := World.block_lt_of_cell? _ _ hg
  have hg2 : ((w.alloc (.cells #[.pointer (some t)] 201)).alloc (.cells #[.pointer (some ⟨16, 201, none⟩), .pointer (some ⟨w.heap.size, 0, none⟩), .int .u64 150] 252)).cell? ⟨12, 0, none⟩ = some (.iface 211 (.agg #[.pointer (some ⟨16, 42, none⟩)])) := by
    rw [World.cell?_alloc_lt _ _ ⟨12, 0, none⟩ (by simp; omega), World.cell?_alloc_lt _ _ ⟨12, 0, none⟩ hlt]; exact hg
  have htl : t.block < w.heap.size := by
    rcases Nat.lt_or_ge t.block w.heap.size with h | h
    · exact h
    · simp [World.cell?, Array.getElem?_eq_none h] at ht0
  have el := Tryz.aselemV27 ⟨w.heap.size, 0, none⟩ t (((w.alloc (.cells #[.pointer (some t)] 201)).alloc (.cells #[.pointer (some ⟨16, 201, none⟩), .pointer (some ⟨w.heap.size, 0, none⟩), .int .u64 150] 252)).alloc (.cells #[.pointer (some ⟨16, 201, none⟩), .pointer (some ⟨w.heap.size, 0, none⟩), .int .u64 150] 252)) (by rw [World.cell?_alloc_lt _ _ ⟨w.heap.size, 0, none⟩ (by simp; omega)]; simp)
  have st := Tryz.asset25 t ⟨w.heap.size + 1 + 1 + 1, 0, none⟩ e old ((((w.alloc (.cells #[.pointer (some t)] 201)).alloc (.cells #[.pointer (some ⟨16, 201, none⟩), .pointer (some ⟨w.heap.size, 0, none⟩), .int .u64 150] 252)).alloc (.cells #[.pointer (some ⟨16, 201, none⟩), .pointer (some ⟨w.heap.size, 0, none⟩), .int .u64 150] 252)).alloc (.cells #[.pointer (some e)] 158))
    (by rw [World.cell?_alloc_at _ _ _ _ (by simp)]; rfl)
    (by rw [World.cell?_alloc_lt _ _ t (by simp; omega), World.cell?_alloc_lt _ _ t (by simp; omega), World.cell?_alloc_lt _ _ t (by simp; omega), World.cell?_alloc_lt _ _ t htl]; exact ht0)
    (by rw [World.frozen?_alloc_old _ _ t (by simp; omega), World.frozen?_alloc_old _ _ t (by simp; omega), World.frozen?_alloc_old _ _ t (by simp; omega), World.frozen?_alloc_old _ _ t (Nat.ne_of_lt htl)]; exact hf0)
  go_enter Tryz.func120, Tryz.ntmps120
  go_wp2
  refine wp_loop_rounds 1 ?_
  rw [rounds_succ]
  go_wp2
  go_ret
  exact ⟨rfl, rfl⟩
end Go.Proofs.YtcfjhbcpjpgodaaGreatDoor
namespace Go.Proofs.YtcfjhbcpjpgodaaGreatDoor
open Go.RowKit

/-- Where package errors keeps the type 'error'. -/
def TypAt (w : World) : Prop := w.cell? ⟨12, 0, none⟩ = some (.iface 211 (.agg #[.pointer (some ⟨16, 42, none⟩)]))
theorem TypAt.below {w w' : World} (h : TypAt w) (hb : Below w.heap.size w w') : TypAt w' := by
  unfold TypAt at h ⊢
  rw [hb.cell (p := ⟨12, 0, none⟩) (by exact World.block_lt_of_cell? _ _ h)]
  exact h

set_option maxHeartbeats 1600000 in
theorem why_any (g : Nat) (f : Int) (b : Addr) (w : World) (hr : RefAt w g f b) (hT : TypAt w) :
    Calls Tryz.prog 96 #[refV g] w fun e w' => e = .returned (.iface 294 (.pointer (some b))) ∧ Below w.heap.size w w' := by
  have hc1 : w.cell? ⟨g, 1, none⟩ = some (.iface 294 (.pointer (some b))) := cell_of_row w g 1 _ _ _ hr
  have hgl : g < w.heap.size := row_lt0 hr
  have HT := hide hT
  clear hr hT
  unfold refV
  go_enter Tryz.func96, Tryz.ntmps96
  go_wp2_with fail
  refine (as_hit ⟨g, 0, none⟩ ⟨w.heap.size, 0, none⟩ (.pointer none) _ (HT.out.below ((Below.refl _ w).alloc (Nat.le_refl _) _)) (by simp) (by simp)).mono ?_
  rintro e w1 ⟨rfl, hw1⟩
  have HB : Hid (Below w.heap.size w w1) := by
    unfold Hid
    rw [hw1]
    exact (((((((Below.refl _ w).alloc (Nat.le_refl _) _).alloc (by simp) _).alloc (by simp; omega) _).alloc (by simp; omega) _).alloc (by simp; omega) _).setCell (by exact Nat.le_refl _) _)
  have q0 : w1.cell? ⟨w.heap.size, 0, none⟩ = some (.pointer (some ⟨g, 0, none⟩)) := by
    rw [hw1]
    refine World.cell?_setCell_same _ _ _ (u := .pointer none) ?_
    rw [World.cell?_alloc_lt _ _ ⟨w.heap.size, 0, none⟩ (by simp; omega), World.cell?_alloc_lt _ _ ⟨w.heap.size, 0, none⟩ (by simp; omega), World.cell?_alloc_lt _ _ ⟨w.heap.size, 0, none⟩ (by simp; omega), World.cell?_alloc_lt _ _ ⟨w.heap.size, 0, none⟩ (by simp)]
    exact cell_of_row _ _ 0 _ _ _ (heap_alloc_new w _)
  have q1 : w1.cell? ⟨g, 1, none⟩ = some (.iface 294 (.pointer (some b))) := (HB.out.cell (p := ⟨g, 1, none⟩) (by exact hgl)).trans hc1
  clear hw1 hc1
  go_wp2
  go_ret
  exact ⟨rfl, HB.out⟩

end Go.Proofs.YtcfjhbcpjpgodaaGreatDoor
