/- Proved here: what errors.Is answers where its target is a sentinel of errors.New's make: true at that very sentinel, false at nil, false at another such sentinel; it leaves the world as it was. · Proved here: what the listed sentinels give a walk: twelve package-level variables that each hold a pointer to an errors.errorString, all of them different, and that this holds still in every later world in which nothing old has turned. · Proved here: what the statements' function which answers at nil (0) and at one of the twelve sentinels (its number), and that it leaves all old memory as it was. -/
import Derived.Test.YtcfjhbcpjpgodaaDoorChecked
import Derived.WalkKit
import Derived.LaidEql
import Derived.Stop.Asserts
import Derived.RowKitTokens
import Derived.Test.YtcfjhbcpjpgodaaDoorBase
import Derived.Stop.LaidErr
import Derived.Below
import Derived.LaidOnce
import Derived.WalkSpells
import Derived.WalkLawsBesides
namespace Go.Proofs.YtcfjhbcpjpgodaaDoor
open Go.RowKit Go.Extern.Stop Go.Stop Go.Extern

theorem Tryd.isTypeOf (v : Value) (w : World) : (Extern.ReflectliteType.typeOf #[.iface 188 v]).run Tryd.prog w = .ok (.iface 144 (.agg #[.pointer (some ⟨16, 188, none⟩)])) w := by kernel_rfl
/-- What the model has for (rtype).Comparable, under a name of its own. -/
def comparableM : Array Value → Sem Value := Extern.ReflectliteType.method fun t => do Extern.Rtype.noPackHeld "Comparable" t; pure (.bool (← typeInfo t).comparable)
theorem Tryd.isComparable (w : World) : (comparableM #[.agg #[.pointer (some ⟨16, 188, none⟩)]]).run Tryd.prog w = .ok (.bool true) w := by kernel_rfl
theorem Tryd.isMethodComparable (v : Value) (w : World) : (Go.method 319 144 v "Comparable").run Tryd.prog w = .ok (117, v) w := by kernel_rfl
theorem Tryd.isComp : (Tryd.prog.info? 188).map (·.comparable) = some true := by kernel_rfl
theorem Tryd.isSize : (Tryd.prog.info? 207).map (·.size) = some 1 := by kernel_rfl
theorem Tryd.noIsE (v : Value) (xT : TypeId) (w : World) : (Instr.typeAssert (.iface 188 v) xT 146 true).run Tryd.prog w = .ok (.tuple #[.nilIface, .bool false]) w := run_typeAssert_lacksB Tryd.underlying146 (by kernel_rfl) (by kernel_rfl) v xT w
theorem Tryd.noUnwrapE (v : Value) (xT : TypeId) (w : World) : (Instr.typeAssert (.iface 188 v) xT 149 true).run Tryd.prog w = .ok (.tuple #[.nilIface, .bool false]) w := run_typeAssert_lacksB Tryd.underlying149 (by kernel_rfl) (by kernel_rfl) v xT w
theorem Tryd.noUnwrapsE (v : Value) (xT : TypeId) (w : World) : (Instr.typeAssert (.iface 188 v) xT 151 true).run Tryd.prog w = .ok (.tuple #[.nilIface, .bool false]) w := run_typeAssert_lacksB Tryd.underlying151 (by kernel_rfl) (by kernel_rfl) v xT w

/-- errors.Is(x, x), x a pointer to an errors.errorString. -/
theorem is_same (a : Addr) (w : World) :
    Calls Tryd.prog 36 #[.iface 188 (.pointer (some a)), .iface 188 (.pointer (some a))] w fun e w' => e = .returned (.bool true) ∧ w' = w := by
  obtain ⟨i, hi, hcmp⟩ := Option.map_eq_some_iff.1 Tryd.isComp
  obtain ⟨j, hj, hjs⟩ := Option.map_eq_some_iff.1 Tryd.isSize
  have h8 := @run_callFunc_extern Tryd.prog 53 _ Extern.ReflectliteType.typeOf Tryd.func53 (by kernel_rfl) (by kernel_rfl) (by kernel_rfl) (by kernel_rfl)
  have h32 := @run_callFunc_extern Tryd.prog 117 _ comparableM Tryd.func117 (by kernel_rfl) (by kernel_rfl) (by kernel_rfl) (by kernel_rfl)
  have tT := Tryd.isTypeOf
  have cT := Tryd.isComparable
  have mR := Tryd.isMethodComparable
  have heq := run_eql_iface_ptr_same (P := Tryd.prog) w a Tryd.underlying23 Tryd.underlying188 hi hcmp hj
  go_enter Tryd.func36, Tryd.ntmps36
  go_wp2
  refine wp_loop_rounds 1 ?_
  rw [rounds_succ]
  go_wp2
  go_ret
  exact ⟨rfl, rfl⟩

/-- errors.Is(nil, x). -/
theorem is_nil (b : Addr) (w : World) :
    Calls Tryd.prog 36 #[.nilIface, .iface 188 (.pointer (some b))] w fun e w' => e = .returned (.bool false) ∧ w' = w := by
  have hn := run_eql_iface_nil_left (P := Tryd.prog) w 188 (.pointer (some b)) Tryd.underlying23
  go_enter Tryd.func36, Tryd.ntmps36
  go_wp2
  go_ret
  exact ⟨rfl, rfl⟩

/-- errors.Is(x, y), two different pointers to errors.errorString: neither has Is nor Unwrap: false. -/
theorem is_other (a b : Addr) (ca cb : Array Value) (ta tb : TypeId) (w : World) (hne : a ≠ b) (ha : w.heap[a.block]? = some (.cells ca ta (0, 0))) (hb : w.heap[b.block]? = some (.cells cb tb (0, 0))) :
    Calls Tryd.prog 36 #[.iface 188 (.pointer (some a)), .iface 188 (.pointer (some b))] w fun e w' => e = .returned (.bool false) ∧ w' = w := by
  obtain ⟨i, hi, hcmp⟩ := Option.map_eq_some_iff.1 Tryd.isComp
  obtain ⟨j, hj, hjs⟩ := Option.map_eq_some_iff.1 Tryd.isSize
  have h8 := @run_callFunc_extern Tryd.prog 53 _ Extern.ReflectliteType.typeOf Tryd.func53 (by kernel_rfl) (by kernel_rfl) (by kernel_rfl) (by kernel_rfl)
  have h32 := @run_callFunc_extern Tryd.prog 117 _ comparableM Tryd.func117 (by kernel_rfl) (by kernel_rfl) (by kernel_rfl) (by kernel_rfl)
  have tT := Tryd.isTypeOf
  have cT := Tryd.isComparable
  have mR := Tryd.isMethodComparable
  have nE := Tryd.noIsE
  have uE := Tryd.noUnwrapE
  have vE := Tryd.noUnwrapsE
  have heq := run_eql_iface_ptr_other (P := Tryd.prog) w Tryd.underlying23 Tryd.underlying188 hi hcmp hj (by rw [hjs]; decide) hne ha hb
  go_enter Tryd.func36, Tryd.ntmps36
  go_wp2
  refine wp_loop_rounds 1 ?_
  rw [rounds_succ]
  go_wp2
  go_ret
  exact ⟨rfl, rfl⟩

end Go.Proofs.YtcfjhbcpjpgodaaDoor
namespace Go.Proofs.YtcfjhbcpjpgodaaDoor
open Go.RowKit

/-- The variables gs hold pointers es, all different, each into a row of cells without a frozen range. -/
structure SentIn (tp : TypeId) (gs : List Nat) (es : List Addr) (w : World) : Prop where
  len : es.length = gs.length
  nodup : es.Nodup
  cell : ∀ (i g : Nat) (a : Addr), gs[i]? = some g → es[i]? = some a → w.cell? ⟨g, 0, none⟩ = some (.iface tp (.pointer (some a)))
  blk : ∀ a, a ∈ es → ∃ c t, w.heap[a.block]? = some (.cells c t (0, 0))

theorem SentIn.later {tp : TypeId} {gs : List Nat} {es : List Addr} {w w' : World} (h : SentIn tp gs es w) (hb : Below w.heap.size w w') : SentIn tp gs es w' := by
  refine ⟨h.len, h.nodup, fun i g a hg ha => ?_, fun a ha => ?_⟩
  · have hc := h.cell i g a hg ha
    rw [hb.cell (p := ⟨g, 0, none⟩) (World.block_lt_of_cell? _ _ hc)]
    exact hc
  · obtain ⟨c, t, hc⟩ := h.blk a ha
    refine ⟨c, t, ?_⟩
    have hlt : a.block < w.heap.size := by
      rcases Nat.lt_or_ge a.block w.heap.size with h' | h'
      · exact h'
      · simp [Array.getElem?_eq_none h'] at hc
    rw [hb.block _ hlt]
    exact hc

theorem sents_of_vars {P : Program} {nm : String} {W : World} {ti tp te ts : TypeId} {ms : Array (String × TypeId)} {f : Field}
    (hi : P.underlying ti = some (.interface ms)) (hrow : ∀ u, P.typeName? 3 u = some nm → u = tp)
    (hp : P.underlying tp = some (.pointer te)) (he : P.underlying te = some (.struct #[f])) (hft : f.type = ts) (hfo : f.offset = 0) (hs : P.underlying ts = some .string) (hc : P.cellsOf te = 1) (hcs : P.cellsOf ts = 1)
    (r : List (String × DataW Unit)) :
    ∀ (ls : List (String × List UInt8)) (gs : List Nat) (ps : List MemPlace), ls.map (fun x => P.globalNamed x.1) = gs.map some → (∀ g, g ∈ gs → (P.globals[g]?).map (·.type) = some ti) →
      DataW.LaidVars P W (ls.map (fun x => (x.1, .iface nm (.ptr (.agg [.lit (.string x.2)])))) ++ r) ps →
      (∀ b off, MemPlace.cell b off ∈ ps → (∃ c t, W.heap[b]? = some (.cells c t (0, 0))) ∧ ∀ u v, W.cell? ⟨b, off, none⟩ = some (.iface u v) → Value.okWide P W .any 0 u v) →
      ∃ es : List Addr, es.length = gs.length ∧ (es.map fun a => MemPlace.cell a.block a.off).Sublist ps ∧
        (∀ (i g : Nat) (a : Addr), gs[i]? = some g → es[i]? = some a → W.cell? ⟨g, 0, none⟩ = some (.iface tp (.pointer (some a)))) ∧ ∀ a, a ∈ es → ∃ c t, W.heap[a.block]? = some (.cells c t (0, 0)) := by
  intro ls
  induction ls with
  | nil =>
    intro gs ps hg _ _ _
    cases gs with
    | nil => exact ⟨[], rfl, by simp, by simp, by simp⟩
    | cons g gs => simp at hg
  | cons x ls ih =>
    intro gs ps hg ht hv hrows
    cases gs with
    | nil => simp at hg
    | cons g gs =>
      simp only [List.map_cons, List.cons.injEq] at hg
      obtain ⟨hg0, hgs⟩ := hg
      obtain ⟨g0, t0, cs0, f0, p0, q0, hg0', ht0', hv0, hd0, hq, e0⟩ := hv
      obtain rfl := Option.some.inj (hg0.symm.trans hg0')
      have ht0 := ht g (by simp)
      obtain rfl := Option.some.inj (ht0.symm.trans ht0')
      subst e0
      obtain ⟨l0⟩ := cs0
      have ok0 : ∀ u v, l0 = [.iface u v] → Value.okWide P W .any 0 u v := fun u v e => by
        subst e
        exact (hrows g 0 (by simp [MemPlace.row])).2 u v (by simpa using World.var?_cell hg0' hv0 0)
      obtain ⟨a0, s0, rfl, hc0, hs0, hz0, rfl⟩ := errorString_of_trod hi hrow hp he hft hfo hs hc hcs hd0 ok0
      obtain ⟨es, hlen, hsub, hcell, hblk⟩ := ih gs q0 hgs (fun g hm => ht g (by simp [hm])) hq (fun b off hm => hrows b off (by simp [hm]))
      refine ⟨a0 :: es, by simp [hlen], ?_, ?_, ?_⟩
      · have e1 : MemPlace.row a0 1 = [MemPlace.cell a0.block a0.off] := by simp [MemPlace.row]
        rw [e1]
        simp only [List.map_cons, List.append_assoc, List.singleton_append]
        exact (List.Sublist.cons_cons _ hsub).trans (List.sublist_append_right _ _)
      · intro i g' a hi' ha
        cases i with
        | zero =>
          simp only [List.getElem?_cons_zero, Option.some.injEq] at hi' ha
          subst hi'; subst ha
          simpa using World.var?_cell hg0' hv0 0
        | succ i => exact hcell i g' a (by simpa using hi') (by simpa using ha)
      · intro a ha
        rcases List.mem_cons.1 ha with rfl | ha
        · exact (hrows a.block a.off (by simp [MemPlace.row])).1
        · exact hblk a ha

theorem sents_of_laid {P : Program} {nm : String} {W : World} {ti tp te ts : TypeId} {ms : Array (String × TypeId)} {f : Field}
    (hi : P.underlying ti = some (.interface ms)) (hrow : ∀ u, P.typeName? 3 u = some nm → u = tp)
    (hp : P.underlying tp = some (.pointer te)) (he : P.underlying te = some (.struct #[f])) (hft : f.type = ts) (hfo : f.offset = 0) (hs : P.underlying ts = some .string) (hc : P.cellsOf te = 1) (hcs : P.cellsOf ts = 1)
    (r : List (String × DataW Unit)) (ls : List (String × List UInt8)) (gs : List Nat) (hg : ls.map (fun x => P.globalNamed x.1) = gs.map some) (ht : ∀ g, g ∈ gs → (P.globals[g]?).map (·.type) = some ti)
    (h : laidMet P (ls.map (fun x => (x.1, .iface nm (.ptr (.agg [.lit (.string x.2)])))) ++ r) W) : ∃ es, SentIn tp gs es W := by
  obtain ⟨ps, hv, hnd, hrows⟩ := h
  obtain ⟨es, hlen, hsub, hcell, hblk⟩ := sents_of_vars hi hrow hp he hft hfo hs hc hcs r ls gs ps hg ht hv hrows
  refine ⟨es, hlen, ?_, hcell, hblk⟩
  have h1 := List.Nodup.sublist hsub hnd
  rw [List.Nodup, List.pairwise_map] at h1
  exact h1.imp fun hne e => hne (by rw [e])

theorem Tryd.star : "*" ++ "errors.errorString" = "*errors.errorString" := by decide
theorem Tryd.rowE (u : TypeId) (h : Tryd.prog.typeName? 3 u = some "*errors.errorString") : u = 188 :=
  typeName_ptr_named (nm := "errors.errorString") (by rw [Tryd.star]; kernel_rfl) (by kernel_rfl) (by decide) u (by rw [Tryd.star]; exact h)
theorem Tryd.cellsE : Tryd.prog.cellsOf 207 = 1 := by kernel_rfl
theorem Tryd.cellsS : Tryd.prog.cellsOf 9 = 1 := by kernel_rfl

/-- The names and texts of the sentinels, in the order of package api. -/
def sentNames : List (String × List UInt8) := [("synod/api.ErrArg", [119, 104, 97, 116, 32, 109, 97, 121, 32, 110, 111, 116, 32, 98, 101]), ("synod/api.ErrForm", [110, 111, 32, 102, 114, 97, 109, 101]), ("synod/api.ErrSeal", [110, 111, 116, 32, 115, 105, 103, 110, 101, 100, 32, 98, 121, 32, 105, 116, 115, 32, 115, 101, 110, 100, 101, 114]), ("synod/api.ErrPast", [111, 102, 32, 97, 32, 104, 101, 105, 103, 104, 116, 32, 116, 104, 97, 116, 32, 105, 115, 32, 100, 101, 99, 105, 100, 101, 100]), ("synod/api.ErrFar", [111, 102, 32, 97, 32, 104, 101, 105, 103, 104, 116, 32, 111, 114, 32, 114, 111, 117, 110, 100, 32, 116, 111, 111, 32, 102, 97, 114, 32, 97, 119, 97, 121]), ("synod/api.ErrOutsider", [102, 114, 111, 109, 32, 111, 110, 101, 32, 119, 104, 111, 32, 104, 97, 115, 32, 110, 111, 32, 115, 97, 121, 32, 105, 110, 32, 116, 104, 105, 115]), ("synod/api.ErrKnown", [107, 110, 111, 119, 110, 32, 97, 108, 114, 101, 97, 100, 121]), ("synod/api.ErrMany", [109, 111, 114, 101, 32, 116, 104, 97, 110, 32, 111, 110, 101, 32, 109, 97, 121, 32, 115, 97, 121]), ("synod/api.ErrFull", [109, 111, 114, 101, 32, 116, 104, 97, 110, 32, 109, 97, 121, 32, 119, 97, 105, 116]), ("synod/api.ErrCert", [110, 111, 32, 99, 101, 114, 116, 105, 102, 105, 99, 97, 116, 101]), ("synod/api.ErrNone", [110, 111, 116, 104, 105, 110, 103, 32, 116, 104, 101, 114, 101]), ("synod/api.ErrRecord", [110, 111, 32, 103, 111, 111, 100, 32, 114, 101, 99, 111, 114, 100, 32, 111, 114, 32, 98, 108, 111, 99, 107])]
def sentGs : List Nat := [0, 1, 2, 3, 4, 5, 6, 7, 8, 9, 10, 11]
theorem Tryd.sentG : sentNames.map (fun x => Tryd.prog.globalNamed x.1) = sentGs.map some := by kernel_rfl
theorem Tryd.sentT (g : Nat) (h : g ∈ sentGs) : (Tryd.prog.globals[g]?).map (·.type) = some 23 := by
  have ha : (sentGs.all fun g => (Tryd.prog.globals[g]?).map (·.type) == some 23) = true := by kernel_rfl
  simpa using List.all_eq_true.1 ha g h

/-- The twelve sentinels of package api, by their pointers. -/
def Sent (es : List Addr) (w : World) : Prop := SentIn 188 sentGs es w

theorem Sent.later {es : List Addr} {w w' : World} (h : Sent es w) (hb : Below w.heap.size w w') : Sent es w' := SentIn.later h hb

theorem sent_of_laid (r : List (String × DataW Unit)) {W : World} (h : laidMet Tryd.prog (sentNames.map (fun x => (x.1, .iface "*errors.errorString" (.ptr (.agg [.lit (.string x.2)])))) ++ r) W) : ∃ es, Sent es W :=
  sents_of_laid Tryd.underlying23 Tryd.rowE Tryd.underlying188 Tryd.underlying207 rfl rfl Tryd.underlying9 Tryd.cellsE Tryd.cellsS r sentNames sentGs Tryd.sentG Tryd.sentT h

end Go.Proofs.YtcfjhbcpjpgodaaDoor
namespace Go.Proofs.YtcfjhbcpjpgodaaDoor
open Go.RowKit Go.Extern.Stop Go.Stop Go.Extern

/-- errors.Is between two of the sentinels: true just at the same one. -/
theorem is_sent {es : List Addr} {w : World} (hS : Sent es w) (i j : Nat) (a b : Addr) (hi : es[i]? = some a) (hj : es[j]? = some b) (t : Bool) (ht : t = decide (i = j)) :
    Calls Tryd.prog 36 #[.iface 188 (.pointer (some a)), .iface 188 (.pointer (some b))] w fun e w' => e = .returned (.bool t) ∧ w' = w := by
  subst ht
  by_cases h : i = j
  · subst h
    rw [hi] at hj
    obtain rfl := Option.some.inj hj
    simpa using is_same a w
  · obtain ⟨ca, ta, ha⟩ := hS.blk a (List.mem_of_getElem? hi)
    obtain ⟨cb, tb, hb⟩ := hS.blk b (List.mem_of_getElem? hj)
    have hne : a ≠ b := by
      rintro rfl
      have hn := hS.nodup
      obtain ⟨hi1, hi2⟩ := List.getElem?_eq_some_iff.1 hi
      obtain ⟨hj1, hj2⟩ := List.getElem?_eq_some_iff.1 hj
      rw [List.Nodup, List.pairwise_iff_getElem] at hn
      rcases Nat.lt_or_gt_of_ne h with h' | h'
      · exact hn i j hi1 hj1 h' (hi2.trans hj2.symm)
      · exact hn j i hj1 hi1 h' (hj2.trans hi2.symm)
    simpa [h] using is_other a b ca cb ta tb w hne ha hb

/-- What the loop of which has found behind the first j of them. -/
def numAt (k j : Nat) : Int := if k < j then (k : Int) + 1 else 99

set_option maxHeartbeats 400000 in
theorem which_at (a0 a1 a2 a3 a4 a5 a6 a7 a8 a9 a10 a11 a : Addr) (k : Nat) (w : World) (hS : Sent [a0, a1, a2, a3, a4, a5, a6, a7, a8, a9, a10, a11] w) (hk : [a0, a1, a2, a3, a4, a5, a6, a7, a8, a9, a10, a11][k]? = some a) :
    Calls Tryd.prog 8 #[.iface 188 (.pointer (some a))] w fun e w' => e = .returned (.int .i64 (k + 1)) ∧ Below w.heap.size w w' := by
  have c0 := hS.cell 0 _ _ rfl rfl
  have c1 := hS.cell 1 _ _ rfl rfl
  have c2 := hS.cell 2 _ _ rfl rfl
  have c3 := hS.cell 3 _ _ rfl rfl
  have c4 := hS.cell 4 _ _ rfl rfl
  have c5 := hS.cell 5 _ _ rfl rfl
  have c6 := hS.cell 6 _ _ rfl rfl
  have c7 := hS.cell 7 _ _ rfl rfl
  have c8 := hS.cell 8 _ _ rfl rfl
  have c9 := hS.cell 9 _ _ rfl rfl
  have c10 := hS.cell 10 _ _ rfl rfl
  have c11 := hS.cell 11 _ _ rfl rfl
  have hK := hide hk
  have hS' := hide hS
  clear hk hS
  go_enter Tryd.func8, Tryd.ntmps8
  go_wp2
  go_loopw [4, 5] (fun n i wr => ∃ j : Nat, j ≤ 12 ∧ i = .int .i64 j ∧ n = .int .i64 (numAt k j) ∧ (∀ j, j < 12 → wr.cell? ⟨w.heap.size, j, none⟩ = some (.iface 188 (.pointer (some ([a0, a1, a2, a3, a4, a5, a6, a7, a8, a9, a10, a11].getD j a0))))) ∧ Below w.heap.size w wr) (fun _ i _ => 12 - (intOf i).toNat)
  case atStart =>
    refine ⟨0, by omega, rfl, rfl, ?_, (Below.refl _ _).alloc (Nat.le_refl _) _⟩
    intro j hj
    match j, hj with
    | 0, _ | 1, _ | 2, _ | 3, _ | 4, _ | 5, _ | 6, _ | 7, _ | 8, _ | 9, _ | 10, _ | 11, _ => simp
  case round =>
    obtain ⟨j, hj, rfl, hn, hcell, hb⟩ := hrel
    have hS1 := hide (hS'.out.later hb)
    by_cases hlt : j < 12
    · have hc := hcell j hlt
      have hjb : [a0, a1, a2, a3, a4, a5, a6, a7, a8, a9, a10, a11][j]? = some ([a0, a1, a2, a3, a4, a5, a6, a7, a8, a9, a10, a11].getD j a0) := by
        rw [List.getD_eq_getElem?_getD, List.getElem?_eq_getElem (by simpa using hlt)]; rfl
      generalize [a0, a1, a2, a3, a4, a5, a6, a7, a8, a9, a10, a11].getD j a0 = b at hc hjb
      have hJ := hide hjb
      have hcl := hide hcell
      clear hcell hjb
      rcases Nat.lt_trichotomy j k with hjk | hjk | hjk
      · have e1 : numAt k j = 99 := by unfold numAt; rw [if_neg (by omega)]
        have e2 : Hid (numAt k (j + 1) = 99) := by unfold Hid numAt; rw [if_neg (by omega)]
        rw [e1] at hn
        clear e1
        subst hn
        go_wp2_with (go_at_call 36; refine (is_sent hS1.out k j _ _ hK.out hJ.out false (by simp; omega)).mono ?_; rintro e w' ⟨rfl, rfl⟩)
        go_roundw
        case rel => exact ⟨j + 1, by omega, by go_num, by rw [e2.out], hcl.out, hb⟩
        case measure => simp [intOf]; omega
      · subst hjk
        have e1 : numAt j j = 99 := by unfold numAt; rw [if_neg (by omega)]
        have e2 : Hid (numAt j (j + 1) = (j : Int) + 1) := by unfold Hid numAt; rw [if_pos (by omega)]
        rw [e1] at hn
        clear e1
        subst hn
        go_wp2_with (go_at_call 36; refine (is_sent hS1.out j j _ _ hK.out hJ.out true (by simp)).mono ?_; rintro e w' ⟨rfl, rfl⟩)
        go_roundw
        case rel => exact ⟨j + 1, by omega, by go_num, by rw [e2.out], hcl.out, hb⟩
        case measure => simp [intOf]; omega
      · have e1 : numAt k j = (k : Int) + 1 := by unfold numAt; rw [if_pos (by omega)]
        have e2 : Hid (numAt k (j + 1) = (k : Int) + 1) := by unfold Hid numAt; rw [if_pos (by omega)]
        rw [e1] at hn
        clear e1
        subst hn
        go_wp2_with (go_at_call 36; refine (is_sent hS1.out k j _ _ hK.out hJ.out false (by simp; omega)).mono ?_; rintro e w' ⟨rfl, rfl⟩)
        go_roundw
        case rel => exact ⟨j + 1, by omega, by go_num, by rw [e2.out], hcl.out, hb⟩
        case measure => simp [intOf]; omega
    · have hk12 : k < 12 := by simpa using (List.getElem?_eq_some_iff.1 hK.out).1
      have e1 : numAt k j = (k : Int) + 1 := by unfold numAt; rw [if_pos (by omega)]
      rw [e1] at hn
      clear e1
      subst hn
      go_wp2
      go_ret
      exact ⟨rfl, hb⟩

theorem which_nil {es : List Addr} {w : World} (hS : Sent es w) :
    Calls Tryd.prog 8 #[.nilIface] w fun e w' => e = .returned (.int .i64 0) ∧ Below w.heap.size w w' := by
  match es, hS.len with
  | [a0, a1, a2, a3, a4, a5, a6, a7, a8, a9, a10, a11], _ =>
  have c0 := hS.cell 0 _ _ rfl rfl
  have c1 := hS.cell 1 _ _ rfl rfl
  have c2 := hS.cell 2 _ _ rfl rfl
  have c3 := hS.cell 3 _ _ rfl rfl
  have c4 := hS.cell 4 _ _ rfl rfl
  have c5 := hS.cell 5 _ _ rfl rfl
  have c6 := hS.cell 6 _ _ rfl rfl
  have c7 := hS.cell 7 _ _ rfl rfl
  have c8 := hS.cell 8 _ _ rfl rfl
  have c9 := hS.cell 9 _ _ rfl rfl
  have c10 := hS.cell 10 _ _ rfl rfl
  have c11 := hS.cell 11 _ _ rfl rfl
  clear hS
  go_enter Tryd.func8, Tryd.ntmps8
  go_wp2
  go_ret
  exact ⟨rfl, (Below.refl _ _).alloc (Nat.le_refl _) _⟩

/-- which at the sentinel with the number k + 1. -/
theorem which_sent {es : List Addr} {w : World} (hS : Sent es w) (k : Nat) (a : Addr) (hk : es[k]? = some a) :
    Calls Tryd.prog 8 #[.iface 188 (.pointer (some a))] w fun e w' => e = .returned (.int .i64 (k + 1)) ∧ Below w.heap.size w w' := by
  match es, hS.len with
  | [a0, a1, a2, a3, a4, a5, a6, a7, a8, a9, a10, a11], _ => exact which_at a0 a1 a2 a3 a4 a5 a6 a7 a8 a9 a10 a11 a k w hS hk

end Go.Proofs.YtcfjhbcpjpgodaaDoor
