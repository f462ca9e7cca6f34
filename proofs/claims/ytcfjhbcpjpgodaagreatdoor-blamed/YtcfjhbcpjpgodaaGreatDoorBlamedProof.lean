/- Proved here: BlamedCardSaid: called with whatever list of numbers and whatever four numbers, in whatever world in which the listed variables lie as the program's text lays them, Blamed returns true, and whatever was there reads as it did. -/
import Derived.Test.YtcfjhbcpjpgodaaGreatDoorCards
import Derived.Test.YtcfjhbcpjpgodaaGreatDoorTie
import Derived.Test.YtcfjhbcpjpgodaaGreatDoorJ50
import Derived.Test.YtcfjhbcpjpgodaaGreatDoorOpenArgs
import Derived.LaidHandle
import Derived.ProofKit
import Derived.LaidMore
import Derived.OpenShut
import Derived.Stop.Joined
import Derived.Deep.DeepHandedRow
import Derived.Deep.DeepWitnessRowRef
import Derived.Shelf.Vars
namespace Go.Proofs.YtcfjhbcpjpgodaaGreatDoor
open Go.ChangeShapes Go.WideShapes Go.ChangeAt Go.RowKit

theorem blamed_own : ownKnob Tryz.prog.godebug = none := by kernel_rfl

theorem laidMet_tail {P : Program} {x : String × DataW Unit} {r : List (String × DataW Unit)} {w : World} (h : laidMet P (x :: r) w) : laidMet P r w := by
  obtain ⟨ps, hv, hnd, hrows⟩ := h
  obtain ⟨g, t, cs, fuel, p, q, _, _, _, _, hq, rfl⟩ := hv
  refine ⟨q, hq, List.Nodup.sublist (List.sublist_append_right _ _) hnd, fun b off hm => hrows b off (by simp [hm])⟩

theorem Tryz.etB : Tryz.prog.globalNamed "errors.errorType" = some 12 := by kernel_rfl
theorem Tryz.rtB : (Tryz.prog.cutTypes.find? (·.1 == "internal/reflectlite.rtype")).map (·.2) = some 211 := by kernel_rfl
theorem Tryz.oneRowB : ((List.range 323).filter fun t => Tryz.prog.rowNamed t [101, 114, 114, 111, 114]) = [42] := by kernel_rfl
theorem Tryz.sizeTB : Tryz.prog.types.size = 323 := by kernel_rfl
theorem Tryz.handleB : typeHandle Tryz.prog 42 = .pointer (some ⟨16, 42, none⟩) := by kernel_rfl

/-- The five sentinels that the row lists. -/
def bdNames : List (String × List UInt8) := [("synod/api.ErrArg", [119, 104, 97, 116, 32, 109, 97, 121, 32, 110, 111, 116, 32, 98, 101]), ("synod/api.ErrForm", [110, 111, 32, 102, 114, 97, 109, 101]), ("synod/api.ErrSeal", [110, 111, 116, 32, 115, 105, 103, 110, 101, 100, 32, 98, 121, 32, 105, 116, 115, 32, 115, 101, 110, 100, 101, 114]), ("synod/api.ErrCert", [110, 111, 32, 99, 101, 114, 116, 105, 102, 105, 99, 97, 116, 101]), ("synod/api.ErrRecord", [110, 111, 32, 103, 111, 111, 100, 32, 114, 101, 99, 111, 114, 100, 32, 111, 114, 32, 98, 108, 111, 99, 107])]
def bdGs : List Nat := [1, 2, 3, 9, 11]
theorem Tryz.bdG : bdNames.map (fun x => Tryz.prog.globalNamed x.1) = bdGs.map some := by kernel_rfl
theorem Tryz.bdT (g : Nat) (h : g ∈ bdGs) : (Tryz.prog.globals[g]?).map (·.type) = some 42 := by
  have ha : (bdGs.all fun g => (Tryz.prog.globals[g]?).map (·.type) == some 42) = true := by kernel_rfl
  simpa using List.all_eq_true.1 ha g h

set_option linter.unusedSimpArgs false in
/-- Twelve pointers out of five. -/
theorem five_twelve {es5 : List Addr} {w : World} (h : SentIn 294 bdGs es5 w) : ∃ es, SentF es w := by
  have hl := h.len
  match es5, hl with
  | [a0, a1, a2, a9, a11], _ =>
    obtain ⟨M, hM⟩ : ∃ M, M = a0.off + a1.off + a2.off + a9.off + a11.off := ⟨_, rfl⟩
    obtain ⟨d, hd⟩ : ∃ d : Nat → Addr, d = fun k => ⟨a0.block, M + 1 + k, none⟩ := ⟨_, rfl⟩
    have hoff : ∀ k, (d k).off = M + 1 + k := fun k => by rw [hd]
    have hblk : ∀ k, (d k).block = a0.block := fun k => by rw [hd]
    have hdd : ∀ k l, (d k = d l) = (k = l) := fun k l => by
      apply propext
      constructor
      · intro e; have := congrArg Addr.off e; rw [hoff, hoff] at this; omega
      · intro e; rw [e]
    have n0 : ∀ k, (d k = a0) = False := fun k => by apply propext; exact ⟨fun e => by have := congrArg Addr.off e; rw [hoff] at this; omega, False.elim⟩
    have n1 : ∀ k, (d k = a1) = False := fun k => by apply propext; exact ⟨fun e => by have := congrArg Addr.off e; rw [hoff] at this; omega, False.elim⟩
    have n2 : ∀ k, (d k = a2) = False := fun k => by apply propext; exact ⟨fun e => by have := congrArg Addr.off e; rw [hoff] at this; omega, False.elim⟩
    have n9 : ∀ k, (d k = a9) = False := fun k => by apply propext; exact ⟨fun e => by have := congrArg Addr.off e; rw [hoff] at this; omega, False.elim⟩
    have n11 : ∀ k, (d k = a11) = False := fun k => by apply propext; exact ⟨fun e => by have := congrArg Addr.off e; rw [hoff] at this; omega, False.elim⟩
    have m0 : ∀ k, (a0 = d k) = False := fun k => by apply propext; exact ⟨fun e => by have := n0 k; rw [e] at this; simp at this, False.elim⟩
    have m1 : ∀ k, (a1 = d k) = False := fun k => by apply propext; exact ⟨fun e => by have := n1 k; rw [e] at this; simp at this, False.elim⟩
    have m2 : ∀ k, (a2 = d k) = False := fun k => by apply propext; exact ⟨fun e => by have := n2 k; rw [e] at this; simp at this, False.elim⟩
    have m9 : ∀ k, (a9 = d k) = False := fun k => by apply propext; exact ⟨fun e => by have := n9 k; rw [e] at this; simp at this, False.elim⟩
    have hnd := h.nodup
    simp only [List.nodup_cons, List.mem_cons, List.not_mem_nil, or_false, not_or, not_false_eq_true, List.nodup_nil, and_true] at hnd
    obtain ⟨⟨x1, x2, x3, x4⟩, ⟨y1, y2, y3⟩, ⟨z1, z2⟩, u1⟩ := hnd
    refine ⟨[a0, a1, a2, d 0, d 1, d 2, d 3, d 4, d 5, a9, d 6, a11], rfl, ?_, fun i g a hg ha hi => ?_, fun a ha => ?_⟩
    · simp [hdd, n0, n1, n2, n9, n11, m0, m1, m2, m9, x1, x2, x3, x4, y1, y2, y3, z1, z2, u1]
    · have hi5 : i = 0 ∨ i = 1 ∨ i = 2 ∨ i = 9 ∨ i = 11 := by unfold fiveB at hi; simpa [or_assoc] using hi
      rcases hi5 with rfl | rfl | rfl | rfl | rfl
      · have e1 : 1 = g := Option.some.inj hg
        have e2 : a0 = a := Option.some.inj ha
        rw [← e1, ← e2]; exact h.cell 0 _ _ rfl rfl
      · have e1 : 2 = g := Option.some.inj hg
        have e2 : a1 = a := Option.some.inj ha
        rw [← e1, ← e2]; exact h.cell 1 _ _ rfl rfl
      · have e1 : 3 = g := Option.some.inj hg
        have e2 : a2 = a := Option.some.inj ha
        rw [← e1, ← e2]; exact h.cell 2 _ _ rfl rfl
      · have e1 : 9 = g := Option.some.inj hg
        have e2 : a9 = a := Option.some.inj ha
        rw [← e1, ← e2]; exact h.cell 3 _ _ rfl rfl
      · have e1 : 11 = g := Option.some.inj hg
        have e2 : a11 = a := Option.some.inj ha
        rw [← e1, ← e2]; exact h.cell 4 _ _ rfl rfl
    · have hb0 := h.blk a0 (by simp)
      simp only [List.mem_cons, List.not_mem_nil, or_false] at ha
      rcases ha with rfl | rfl | rfl | rfl | rfl | rfl | rfl | rfl | rfl | rfl | rfl | rfl
      · exact hb0
      · exact h.blk a (by simp)
      · exact h.blk a (by simp)
      · rw [hblk]; exact hb0
      · rw [hblk]; exact hb0
      · rw [hblk]; exact hb0
      · rw [hblk]; exact hb0
      · rw [hblk]; exact hb0
      · rw [hblk]; exact hb0
      · exact h.blk a (by simp)
      · rw [hblk]; exact hb0
      · exact h.blk a (by simp)

theorem blamed_parts {W : World} (h : laidMetH Tryz.prog Rows.blamedRow.laid W) : (∃ es, SentF es W) ∧ TypAt W := by
  have f1 : (Rows.blamedRow.laid.filter fun x => x.2.handleName?.isSome) = [("errors.errorType", Rows.laid_errors_errorType)] := by kernel_rfl
  have f2 : (Rows.blamedRow.laid.filter fun x => x.2.handleName?.isNone) = ("unicode/utf8.acceptRanges", Rows.laid_unicode_utf8_acceptRanges) :: (bdNames.map (fun x => (x.1, .iface "*errors.errorString" (.ptr (.agg [.lit (.string x.2)])))) ++ [("unicode/utf8.first", Rows.laid_unicode_utf8_first)]) := by kernel_rfl
  unfold laidMetH at h
  rw [f1, f2] at h
  have h' : laidMet Tryz.prog (("unicode/utf8.acceptRanges", Rows.laid_unicode_utf8_acceptRanges) :: (bdNames.map (fun x => (x.1, .iface "*errors.errorString" (.ptr (.agg [.lit (.string x.2)])))) ++ [("unicode/utf8.first", Rows.laid_unicode_utf8_first)])) W ∧ handlesMet Tryz.prog [("errors.errorType", Rows.laid_errors_errorType)] W := h
  obtain ⟨es5, hS⟩ := sents_of_laid Tryz.underlying42 Tryz.rowE Tryz.underlying294 Tryz.underlying312 rfl rfl Tryz.underlying9 Tryz.cellsE Tryz.cellsS [("unicode/utf8.first", Rows.laid_unicode_utf8_first)] bdNames bdGs Tryz.bdG Tryz.bdT (laidMet_tail h'.1)
  refine ⟨five_twelve hS, ?_⟩
  obtain ⟨name, u, ty, e1, e2, e3, e4, e5⟩ := h'.2 _ (List.mem_singleton.2 rfl)
  have en : name = [101, 114, 114, 111, 114] := (Option.some.inj e1).symm
  subst en
  obtain rfl := Option.some.inj (Tryz.rtB.symm.trans e2)
  have hm : ty ∈ (List.range 323).filter fun t => Tryz.prog.rowNamed t [101, 114, 114, 111, 114] := List.mem_filter.2 ⟨List.mem_range.2 (by rw [← Tryz.sizeTB]; exact e3), e4⟩
  rw [Tryz.oneRowB] at hm
  obtain rfl := List.mem_singleton.1 hm
  rw [Tryz.handleB] at e5
  unfold TypAt
  simpa using World.var?_cell Tryz.etB e5 0

theorem glob_of {es : List Addr} {m : Int} {W : World} (h : SentF es W) (hm : W.cell? ⟨13, 0, none⟩ = some (.int .i64 m)) : GlobAt W.heap.size es m W := by
  refine ⟨h, hm, fun i g hg hi => ?_, World.block_lt_of_cell? _ _ hm, fun a ha => ?_⟩
  · obtain ⟨a, ha⟩ : ∃ a, es[i]? = some a := by
      have h1 : i < sentGs.length := (List.getElem?_eq_some_iff.1 hg).1
      exact ⟨_, List.getElem?_eq_getElem (by rw [h.len]; exact h1)⟩
    exact World.block_lt_of_cell? _ _ (h.cellF i g a hg ha hi)
  · obtain ⟨c, t, hc⟩ := h.blk a ha
    exact row_lt0 hc

set_option maxRecDepth 100000 in
theorem open_numsB {H : Type} {enc : TypeId × Value → H} {W : World} {base : Nat} {v : Value} {d : DataW H} {p : List MemPlace} (hv : Value.okWide Tryz.prog W .any base 22 v) (h : DataW.Trod enc Tryz.prog W 0 (fun _ => true) true 22 v d p) :
    ∃ (pa : Option Addr) (n cap : Nat) (g : Nat → Int), v = .slice pa n cap ∧ Lies W W.heap.size pa n (fun i => .int .i64 (g i)) ∧ n ≤ maxLen ∧ (∀ i, i < n → -9223372036854775808 ≤ g i ∧ g i ≤ 9223372036854775807) ∧ ∀ x ∈ p, x.block < W.heap.size := by
  obtain ⟨pa, n, cap, rfl⟩ := okWide_slice Tryz.underlying22 hv
  obtain ⟨fuel, hf⟩ := h
  have hf' : DataW.trod enc Tryz.prog W 0 (fun _ => true) true fuel 22 [.slice pa n cap] = some (d, p) := hf
  rcases open_ints Tryz.underlying22 Tryz.underlying3 Tryz.cellsI hf' with ⟨hcs, hx⟩ | ⟨a, len, cap', zs, hcs, _, hl, hm, hz, hx, hcell, hwf⟩
  · simp at hcs hx
    obtain ⟨rfl, rfl, rfl⟩ := hcs
    obtain ⟨rfl, rfl⟩ := hx
    exact ⟨none, 0, 0, fun _ => 0, rfl, fun i hi => by omega, Nat.zero_le _, fun i hi => by omega, fun x hx => by cases hx⟩
  · simp at hcs hx
    obtain ⟨rfl, rfl, rfl⟩ := hcs
    obtain ⟨rfl, rfl⟩ := hx
    simp only [if_true] at hz
    obtain ⟨b, o, sp⟩ := a
    obtain rfl : sp = none := ok_spot Tryz.underlying22 hv
    have hc2 : ∀ i, i < zs.length → W.cell? ⟨b, o + i, none⟩ = some (.int .i64 (zs.getD i 0)) := fun i hi => by rw [← addr_add]; exact hcell i hi
    refine ⟨_, n, cap, fun i => zs.getD i 0, rfl, fun i hi => ⟨b, o, rfl, World.block_lt_of_cell? _ _ (hc2 i (by omega)), hc2 i (by omega)⟩, Nat.le_trans hl hm, fun i hi => ?_, fun x hx => ?_⟩
    · have h1 : zs.getD i 0 ∈ zs := by rw [List.getD_eq_getElem?_getD, List.getElem?_eq_getElem (by omega)]; exact List.getElem_mem (by omega)
      have h2 := bounds_i64 (hwf _ h1)
      exact ⟨h2.1, h2.2⟩
    · simp only [MemPlace.row, List.mem_map, List.mem_range] at hx
      obtain ⟨i, hi, rfl⟩ := hx
      exact World.block_lt_of_cell? _ _ (hc2 i hi)

theorem blamed_door (os : Os) (args : Array Value) : laidMetH Tryz.prog Rows.blamedRow.laid (({ World.doorLaid Tryz.prog 254 os with heap := (((World.doorLaid Tryz.prog 254 os).heap.modify 12 fun o => match o with | .cells _ t frozen => .cells #[.iface 211 (.agg #[.pointer (some ⟨16, 42, none⟩)])] t frozen | o => o).modify 15 fun o => match o with | .cells _ t frozen => .cells ([128, 191, 160, 191, 128, 159, 144, 191, 128, 143, 0, 0, 0, 0, 0, 0, 0, 0, 0, 0, 0, 0, 0, 0, 0, 0, 0, 0, 0, 0, 0, 0].map fun (z : Nat) => Value.int .u8 (z : Int)).toArray t frozen | o => o).modify 14 fun o => match o with | .cells _ t frozen => .cells (Go.Pinned.utf8FirstZ.map fun (z : Nat) => Value.int .u8 (z : Int)).toArray t frozen | o => o } : World).forCall (fun _ _ => 0) ⟨#[], args, []⟩).memory :=
  laidMetH_of_parts (laidMet_of_run' 8 (by kernel_rfl) (by kernel_rfl)) (by kernel_rfl)
theorem blamed_reads (os : Os) {H : Type} (enc : TypeId × Value → H) : ∃ places, DataW.whole enc Tryz.prog (({ World.doorLaid Tryz.prog 254 os with heap := (((World.doorLaid Tryz.prog 254 os).heap.modify 12 fun o => match o with | .cells _ t frozen => .cells #[.iface 211 (.agg #[.pointer (some ⟨16, 42, none⟩)])] t frozen | o => o).modify 15 fun o => match o with | .cells _ t frozen => .cells ([128, 191, 160, 191, 128, 159, 144, 191, 128, 143, 0, 0, 0, 0, 0, 0, 0, 0, 0, 0, 0, 0, 0, 0, 0, 0, 0, 0, 0, 0, 0, 0].map fun (z : Nat) => Value.int .u8 (z : Int)).toArray t frozen | o => o).modify 14 fun o => match o with | .cells _ t frozen => .cells (Go.Pinned.utf8FirstZ.map fun (z : Nat) => Value.int .u8 (z : Int)).toArray t frozen | o => o } : World).forCall (fun _ _ => 0) ⟨#[], #[.slice none 0 0, .int .i64 0, .int .i64 0, .int .i64 0, .int .i64 0], []⟩).memory Tryz.f7.params.toList Rows.blamedSpec.vars false #[Value.slice none 0 0, Value.int .i64 0, Value.int .i64 0, Value.int .i64 0, Value.int .i64 0].toList 8 = some ([.nil, .lit (.int .i64 0), .lit (.int .i64 0), .lit (.int .i64 0), .lit (.int .i64 0)], [], places) :=
  ⟨[], by kernel_rfl⟩

set_option maxRecDepth 100000 in
theorem blamed_lifted (os : Os) (started : os.Started) (H : Type) (enc : TypeId × Value → H) (F : Stop.Interp) :
    ReturnsInHanded {} Tryz.checked os 7 .any ((OpenSpec.ofChange Rows.blamedSpec).preRow enc Tryz.prog Tryz.f7 Rows.blamedRow.domain false Rows.blamedRow.laid) (((OpenSpec.ofChange Rows.blamedSpec).at F).post enc Tryz.prog Tryz.f7 false true false false) := by
  obtain ⟨places, hx⟩ := blamed_reads os enc
  refine returnsInHanded_of_row (C := Tryz.checked) (s := (OpenSpec.ofChange Rows.blamedSpec)) blamed_own started (by kernel_rfl) Tryz.func7
    (witness_row_atRef (enc := enc) (C := Tryz.checked) false ({ World.doorLaid Tryz.prog 254 os with heap := (((World.doorLaid Tryz.prog 254 os).heap.modify 12 fun o => match o with | .cells _ t frozen => .cells #[.iface 211 (.agg #[.pointer (some ⟨16, 42, none⟩)])] t frozen | o => o).modify 15 fun o => match o with | .cells _ t frozen => .cells ([128, 191, 160, 191, 128, 159, 144, 191, 128, 143, 0, 0, 0, 0, 0, 0, 0, 0, 0, 0, 0, 0, 0, 0, 0, 0, 0, 0, 0, 0, 0, 0].map fun (z : Nat) => Value.int .u8 (z : Int)).toArray t frozen | o => o).modify 14 fun o => match o with | .cells _ t frozen => .cells (Go.Pinned.utf8FirstZ.map fun (z : Nat) => Value.int .u8 (z : Int)).toArray t frozen | o => o } : World) #[.slice none 0 0, .int .i64 0, .int .i64 0, .int .i64 0, .int .i64 0] rfl (by kernel_rfl) (by kernel_rfl) (by kernel_rfl)
      (OpenSpec.preRow_of_cond 8 hx (by kernel_rfl) (fun k hk => by cases hk) (by kernel_rfl) (blamed_door os _))) ?_
  intro W base args ds gs before hval0 hW _ _ _ hL hsh _
  have hval : ∀ (j : Nat) t v, Tryz.f7.params[j]? = some t → args[j]? = some v → Value.okWide Tryz.prog W .any base t v := hval0
  have hW' := hW
  obtain ⟨p, q, hA0, hV, rfl, hfz, hnd⟩ := hW
  have hA : DataW.TrodAll enc Tryz.prog W 0 (fun _ => true) true Tryz.f7.params.toList args.toList ds p := hA0
  rw [Tryz.params7] at hA hval
  obtain ⟨v0, vs0, d0, ds0, p0, q0, ea0, rfl, rfl, h0, hA1⟩ := trodAll_cons hA
  obtain ⟨v1, vs1, d1, ds1, p1, q1, ea1, rfl, rfl, h1, hA2⟩ := trodAll_cons hA1
  obtain ⟨v2, vs2, d2, ds2, p2, q2, ea2, rfl, rfl, h2, hA3⟩ := trodAll_cons hA2
  obtain ⟨v3, vs3, d3, ds3, p3, q3, ea3, rfl, rfl, h3, hA4⟩ := trodAll_cons hA3
  obtain ⟨v4, vs4, d4, ds4, p4, q4, ea4, rfl, rfl, h4, hA5⟩ := trodAll_cons hA4
  obtain ⟨rfl, rfl, rfl⟩ := trodAll_nil hA5
  have eargs : args = #[v0, v1, v2, v3, v4] := by
    apply Array.toList_inj.1
    rw [ea0, ea1, ea2, ea3, ea4]
  subst eargs
  clear ea0 ea1 ea2 ea3 ea4
  obtain ⟨rfl, rfl⟩ := trodVars_none hV
  obtain ⟨⟨es, hS⟩, hTy⟩ := blamed_parts hL
  obtain ⟨m, hm⟩ := cell_of_shapedOpen_int (P := Tryz.prog) (g := 13) (t := 3) (zero := #[.int .i64 0]) hsh (of_decide_eq_true (by kernel_rfl)) (by kernel_rfl) rfl (by kernel_rfl) (by kernel_rfl) Tryz.underlying3
  obtain ⟨pa, n, cap, g, rfl, hl, hn, hgb, hlt0⟩ := open_numsB (hval 0 22 v0 rfl rfl) h0
  obtain ⟨s1, rfl, rfl, rfl, w1⟩ := open_int Tryz.underlying3 (hval 1 3 v1 rfl rfl) h1
  obtain ⟨s2, rfl, rfl, rfl, w2⟩ := open_int Tryz.underlying3 (hval 2 3 v2 rfl rfl) h2
  obtain ⟨s3, rfl, rfl, rfl, w3⟩ := open_int Tryz.underlying3 (hval 3 3 v3 rfl rfl) h3
  obtain ⟨s4, rfl, rfl, rfl, w4⟩ := open_int Tryz.underlying3 (hval 4 3 v4 rfl rfl) h4
  clear hA0 hval0
  refine (blamed_walk g pa n cap s1 s2 s3 s4 W hl hn hgb (bounds_i64 w1).1 (bounds_i64 w1).2 (bounds_i64 w4).1 (bounds_i64 w4).2 (glob_of hS hm) (Nat.le_refl _) hTy).mono fun e W' ⟨he, hb⟩ => ?_
  subst he
  have e1 : ((OpenSpec.ofChange Rows.blamedSpec).at F).fn H ([d0, .lit (.int .i64 s1), .lit (.int .i64 s2), .lit (.int .i64 s3), .lit (.int .i64 s4)] ++ []) = { results := [.lit (.bool true)], args := [d0, .lit (.int .i64 s1), .lit (.int .i64 s2), .lit (.int .i64 s3), .lit (.int .i64 s4)] } := rfl
  refine ⟨_, rfl, _, _, _, [], p0 ++ ([] ++ ([] ++ ([] ++ ([] ++ [])))), [], hW', ?_, ?_, ?_, hb.frame _, fun h => by cases h⟩
  · rw [e1]; exact trodAll_mk1 (shut_bool Tryz.underlying4 true)
  · rw [e1]
    exact trodAll_cons_mk (Below.trod (by kernel_rfl) (by kernel_rfl) (of_decide_eq_true (by kernel_rfl)) h0 hb hlt0) (trodAll_cons_mk (Below.trod (by kernel_rfl) (by kernel_rfl) (of_decide_eq_true (by kernel_rfl)) h1 hb (fun x hx => by cases hx)) (trodAll_cons_mk (Below.trod (by kernel_rfl) (by kernel_rfl) (of_decide_eq_true (by kernel_rfl)) h2 hb (fun x hx => by cases hx)) (trodAll_cons_mk (Below.trod (by kernel_rfl) (by kernel_rfl) (of_decide_eq_true (by kernel_rfl)) h3 hb (fun x hx => by cases hx)) (trodAll_cons_mk (Below.trod (by kernel_rfl) (by kernel_rfl) (of_decide_eq_true (by kernel_rfl)) h4 hb (fun x hx => by cases hx)) trodAll_mk0))))
  · rw [e1]; rfl

theorem blamed_holds : Rows.BlamedSaid :=
  OpenClaim.holds_of_cond 7 Tryz.f7 rfl rfl rfl rfl rfl rfl rfl ⟨rfl, rfl, rfl, rfl, rfl⟩ rfl rfl rfl rfl rfl (by kernel_rfl) Tryz.func7 (by kernel_rfl)
    (of_decide_eq_true (by kernel_rfl)) (by unfold Func.isWrapper; first | (rw [if_pos (by decide +kernel)]; kernel_rfl) | (rw [if_neg (by decide +kernel)]; exact ⟨rfl, rfl⟩))
    (fun os started H enc _ F => by rw [OpenClaim.pre_eq_preRow]; exact blamed_lifted os started H enc F)

theorem blamed_plain (f : FuncId) (fn : Func) (hf : Tryz.pinned.checked.prog.funcNamed "synod/synodkeep.Blamed" = some f) (hfn : Tryz.pinned.checked.prog.funcs[f]? = some fn) :
    true = Tryz.pinned.checked.prog.looks [] ∧ ∀ (j : Nat) t, fn.params[j]? = some t → Tryz.pinned.checked.prog.wantsStandIn t = false := by
  obtain rfl : f = 7 := Option.some.inj ((show Tryz.prog.funcNamed "synod/synodkeep.Blamed" = some 7 by kernel_rfl).symm.trans hf) |>.symm
  obtain rfl : fn = Tryz.f7 := (Option.some.inj (Tryz.func7.symm.trans hfn)).symm
  refine ⟨by kernel_rfl, fun j t ht => ?_⟩
  rw [Tryz.params7] at ht
  have hm : t ∈ [22, 3, 3, 3, 3] := by simpa using Array.mem_of_getElem? ht
  have hall : ([22, 3, 3, 3, 3].all fun u => !Tryz.prog.wantsStandIn u) = true := by kernel_rfl
  exact (show Tryz.prog.wantsStandIn t = false by simpa using List.all_eq_true.1 hall t hm)

theorem blamed_card : Rows.BlamedCardSaid :=
  Claim7.holds_tied_plain_at .later [] _ _ _ _ blamed_holds (fun _ h => by cases h) (by kernel_rfl) (fun _ h => by cases h) blamed_row_tie rfl ⟨rfl, rfl⟩ (by kernel_rfl) rfl blamed_plain (by kernel_rfl)

#print axioms blamed_card
end Go.Proofs.YtcfjhbcpjpgodaaGreatDoor
