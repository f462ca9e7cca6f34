/- Proved here: what errors.Is answers where its target is a sentinel of errors.New's make: true at that very sentinel, false at nil, false at another such sentinel; it leaves the world as it was. -/
import Derived.Test.YtcfjhbcpjpgodaaGreatDoorChecked
import Derived.WalkKit
import Derived.LaidEql
import Derived.Stop.Asserts
import Derived.RowKitTokens
import Derived.Test.YtcfjhbcpjpgodaaGreatDoorBase
import Derived.Stop.LaidErr
import Derived.Below
import Derived.LaidOnce
namespace Go.Proofs.YtcfjhbcpjpgodaaGreatDoor
open Go.RowKit Go.Extern.Stop Go.Stop Go.Extern

theorem Tryz.isTypeOf (v : Value) (w : World) : (Extern.ReflectliteType.typeOf #[.iface 294 v]).run Tryz.prog w = .ok (.iface 211 (.agg #[.pointer (some ⟨16, 294, none⟩)])) w := by kernel_rfl
def comparableM : Array Value → Sem Value := Extern.ReflectliteType.method fun t => do Extern.Rtype.noPackHeld "Comparable" t; pure (.bool (← typeInfo t).comparable)
theorem Tryz.isComparable (w : World) : (comparableM #[.agg #[.pointer (some ⟨16, 294, none⟩)]]).run Tryz.prog w = .ok (.bool true) w := by kernel_rfl
theorem Tryz.isMethodComparable (v : Value) (w : World) : (Go.method 423 211 v "Comparable").run Tryz.prog w = .ok (239, v) w := by kernel_rfl
theorem Tryz.isComp : (Tryz.prog.info? 294).map (·.comparable) = some true := by kernel_rfl
theorem Tryz.isSize : (Tryz.prog.info? 312).map (·.size) = some 1 := by kernel_rfl
theorem Tryz.noIsE (v : Value) (xT : TypeId) (w : World) : (Instr.typeAssert (.iface 294 v) xT 213 true).run Tryz.prog w = .ok (.tuple #[.nilIface, .bool false]) w := run_typeAssert_lacksB Tryz.underlying213 (by kernel_rfl) (by kernel_rfl) v xT w
theorem Tryz.noUnwrapE (v : Value) (xT : TypeId) (w : World) : (Instr.typeAssert (.iface 294 v) xT 216 true).run Tryz.prog w = .ok (.tuple #[.nilIface, .bool false]) w := run_typeAssert_lacksB Tryz.underlying216 (by kernel_rfl) (by kernel_rfl) v xT w
theorem Tryz.noUnwrapsE (v : Value) (xT : TypeId) (w : World) : (Instr.typeAssert (.iface 294 v) xT 218 true).run Tryz.prog w = .ok (.tuple #[.nilIface, .bool false]) w := run_typeAssert_lacksB Tryz.underlying218 (by kernel_rfl) (by kernel_rfl) v xT w

theorem is_same (a : Addr) (w : World) :
 Calls Tryz.prog 30 #[.iface 294 (.pointer (some a)), .iface 294 (.pointer (some a))] w fun e w' => e = .returned (.bool true) ∧ w' = w := by
 obtain ⟨i, hi, hcmp⟩ := Option.map_eq_some_iff.1 Tryz.isComp
 obtain ⟨j, hj, hjs⟩ := Option.map_eq_some_iff.1 Tryz.isSize
 have h8 := @run_callFunc_extern Tryz.prog 83 _ Extern.ReflectliteType.typeOf Tryz.func83 (by kernel_rfl) (by kernel_rfl) (by kernel_rfl) (by kernel_rfl)
 have h32 := @run_callFunc_extern Tryz.prog 239 _ comparableM Tryz.func239 (by kernel_rfl) (by kernel_rfl) (by kernel_rfl) (by kernel_rfl)
 have tT := Tryz.isTypeOf
 have cT := Tryz.isComparable
 have mR := Tryz.isMethodComparable
 have heq := run_eql_iface_ptr_same (P := Tryz.prog) w a Tryz.underlying42 Tryz.underlying294 hi hcmp hj
 go_enter Tryz.func30, Tryz.ntmps30
 go_wp2
 refine wp_loop_rounds 1 ?_
 rw [rounds_succ]
 go_wp2
 go_ret
 exact ⟨rfl, rfl⟩

theorem is_nil (b : Addr) (w : World) :
 Calls Tryz.prog 30 #[.nilIface, .iface 294 (.pointer (some b))] w fun e w' => e = .returned (.bool false) ∧ w' = w := by
 have hn := run_eql_iface_nil_left (P := Tryz.prog) w 294 (.pointer (some b)) Tryz.underlying42
 go_enter Tryz.func30, Tryz.ntmps30
 go_wp2
 go_ret
 exact ⟨rfl, rfl⟩

theorem is_other (a b : Addr) (ca cb : Array Value) (ta tb : TypeId) (w : World) (hne : a ≠ b) (ha : w.heap[a.block]? = some (.cells ca ta (0, 0))) (hb : w.heap[b.block]? = some (.cells cb tb (0, 0))) :
 Calls Tryz.prog 30 #[.iface 294 (.pointer (some a)), .iface 294 (.pointer (some b))] w fun e w' => e = .returned (.bool false) ∧ w' = w := by
 obtain ⟨i, hi, hcmp⟩ := Option.map_eq_some_iff.1 Tryz.isComp
 obtain ⟨j, hj, hjs⟩ := Option.map_eq_some_iff.1 Tryz.isSize
 have h8 := @run_callFunc_extern Tryz.prog 83 _ Extern.ReflectliteType.typeOf Tryz.func83 (by kernel_rfl) (by kernel_rfl) (by kernel_rfl) (by kernel_rfl)
 have h32 := @run_callFunc_extern Tryz.prog 239 _ comparableM Tryz.func239 (by kernel_rfl) (by kernel_rfl) (by kernel_rfl) (by kernel_rfl)
 have tT := Tryz.isTypeOf
 have cT := Tryz.isComparable
 have mR := Tryz.isMethodComparable
 have nE := Tryz.noIsE
 have uE := Tryz.noUnwrapE
 have vE := Tryz.noUnwrapsE
 have heq := run_eql_iface_ptr_other (P := Tryz.prog) w Tryz.underlying42 Tryz.underlying294 hi hcmp hj (by rw [hjs]; decide) hne ha hb
 go_enter Tryz.func30, Tryz.ntmps30
 go_wp2
 refine wp_loop_rounds 1 ?_
 rw [rounds_succ]
 go_wp2
 go_ret
 exact ⟨rfl, rfl⟩

structure SentIn (tp : TypeId) (gs : List Nat) (es : List Addr) (w : World) : Prop where
 len : es.length = gs.length
 nodup : es.Nodup
 cell : ∀ (i g : Nat) (a : Addr), gs[i]? = some g → es[i]? = some a → w.cell? ⟨g, 0, none⟩ = some (.iface tp (.pointer (some a)))
 blk : ∀ a, a ∈ es → ∃ c t, w.heap[a.block]? = some (.cells c t (0, 0))

theorem sents_of_vars {P : Program} {nm : String} {W : World} {ti tp te ts : TypeId} {ms : Array (String × TypeId)} {f : Field}
 (hi : P.underlying ti = some (.interface ms)) (hrow : ∀ u, P.typeName? 3 u = some nm → u = tp)
 (hp : P.underlying tp = some (.pointer te)) (he : P.underlying te = some (.struct #[f])) (hft : f.type = ts) (hfo : f.offset = 0) (hs : P.underlying ts = some .string) (hc : P.cellsOf te = 1) (hcs : P.cellsOf ts = 1)
 (r : List (String × DataW Unit)) :
 ∀ (ls : List (String × List UInt8)) (gs : List Nat) (ps : List MemPlace), ls.map (fun x => P.globalNamed x.1) = gs.map some → (∀ g, g ∈ gs → (P.globals[g]?).map (·.type) = some ti) →
  DataW.LaidVars P W (ls.map (fun x => (x.1, .iface nm (.ptr (.agg [.lit (.string x.2)])))) ++ r) ps →
  (∀ b off, MemPlace.cell b off ∈ ps → (∃ c t, W.heap[b]? = some (.cells c t (0, 0))) ∧ ∀ u v, W.cell? ⟨b, off, none⟩ = some (.iface u v) → Value.okWide P W .any 0 u v) →
  ∃ es : List Addr, es.length = gs.length ∧ (es.map fun a => MemPlace.cell a.block a.off).Sublist ps ∧
   (∀ (i g : Nat) (a : Addr), gs[i]? = some g → es[i]? = some a → W.cell? ⟨g, 0, none⟩ = some (.iface tp (.pointer (some a)))) ∧ ∀ a, a ∈ es → ∃ c t, W.heap[a.block]? = some (.cells c t (0, 0)) := by
 intro ls
 induction ls with
 | nil =>
  intro gs ps hg _ _ _
  cases gs with
  | nil => exact ⟨[], rfl, by simp, by simp, by simp⟩
  | cons g gs => simp at hg
 | cons x ls ih =>
  intro gs ps hg ht hv hrows
  cases gs with
  | nil => simp at hg
  | cons g gs =>
   simp only [List.map_cons, List.cons.injEq] at hg
   obtain ⟨hg0, hgs⟩ := hg
   obtain ⟨g0, t0, cs0, f0, p0, q0, hg0', ht0', hv0, hd0, hq, e0⟩ := hv
   obtain rfl := Option.some.inj (hg0.symm.trans hg0')
   have ht0 := ht g (by simp)
   obtain rfl := Option.some.inj (ht0.symm.trans ht0')
   subst e0
   obtain ⟨l0⟩ := cs0
   have ok0 : ∀ u v, l0 = [.iface u v] → Value.okWide P W .any 0 u v := fun u v e => by
    subst e
    exact (hrows g 0 (by simp [MemPlace.row])).2 u v (by simpa using World.var?_cell hg0' hv0 0)
   obtain ⟨a0, s0, rfl, hc0, hs0, hz0, rfl⟩ := errorString_of_trod hi hrow hp he hft hfo hs hc hcs hd0 ok0
   obtain ⟨es, hlen, hsub, hcell, hblk⟩ := ih gs q0 hgs (fun g hm => ht g (by simp [hm])) hq (fun b off hm => hrows b off (by simp [hm]))
   refine ⟨a0 :: es, by simp [hlen], ?_, ?_, ?_⟩
   · have e1 : MemPlace.row a0 1 = [MemPlace.cell a0.block a0.off] := by simp [MemPlace.row]
     rw [e1]
     simp only [List.map_cons, List.append_assoc, List.singleton_append]
     exact (List.Sublist.cons_cons _ hsub).trans (List.sublist_append_right _ _)
   · intro i g' a hi' ha
     cases i with
     | zero =>
      simp only [List.getElem?_cons_zero, Option.some.injEq] at hi' ha
      subst hi'; subst ha
      simpa using World.var?_cell hg0' hv0 0
     | succ i => exact hcell i g' a (by simpa using hi') (by simpa using ha)
   · intro a ha
     rcases List.mem_cons.1 ha with rfl | ha
     · exact (hrows a.block a.off (by simp [MemPlace.row])).1
     · exact hblk a ha

theorem sents_of_laid {P : Program} {nm : String} {W : World} {ti tp te ts : TypeId} {ms : Array (String × TypeId)} {f : Field}
 (hi : P.underlying ti = some (.interface ms)) (hrow : ∀ u, P.typeName? 3 u = some nm → u = tp)
 (hp : P.underlying tp = some (.pointer te)) (he : P.underlying te = some (.struct #[f])) (hft : f.type = ts) (hfo : f.offset = 0) (hs : P.underlying ts = some .string) (hc : P.cellsOf te = 1) (hcs : P.cellsOf ts = 1)
 (r : List (String × DataW Unit)) (ls : List (String × List UInt8)) (gs : List Nat) (hg : ls.map (fun x => P.globalNamed x.1) = gs.map some) (ht : ∀ g, g ∈ gs → (P.globals[g]?).map (·.type) = some ti)
 (h : laidMet P (ls.map (fun x => (x.1, .iface nm (.ptr (.agg [.lit (.string x.2)])))) ++ r) W) : ∃ es, SentIn tp gs es W := by
 obtain ⟨ps, hv, hnd, hrows⟩ := h
 obtain ⟨es, hlen, hsub, hcell, hblk⟩ := sents_of_vars hi hrow hp he hft hfo hs hc hcs r ls gs ps hg ht hv hrows
 refine ⟨es, hlen, ?_, hcell, hblk⟩
 have h1 := List.Nodup.sublist hsub hnd
 rw [List.Nodup, List.pairwise_map] at h1
 exact h1.imp fun hne e => hne (by rw [e])

theorem Tryz.star : "*" ++ "errors.errorString" = "*errors.errorString" := by decide
theorem Tryz.rowE (u : TypeId) (h : Tryz.prog.typeName? 3 u = some "*errors.errorString") : u = 294 :=
 typeName_ptr_named (nm := "errors.errorString") (by rw [Tryz.star]; kernel_rfl) (by kernel_rfl) (by decide) u (by rw [Tryz.star]; exact h)
theorem Tryz.cellsE : Tryz.prog.cellsOf 312 = 1 := by kernel_rfl
theorem Tryz.cellsS : Tryz.prog.cellsOf 9 = 1 := by kernel_rfl

def sentGs : List Nat := [1, 2, 3, 0, 4, 5, 6, 7, 8, 9, 10, 11]
end Go.Proofs.YtcfjhbcpjpgodaaGreatDoor
