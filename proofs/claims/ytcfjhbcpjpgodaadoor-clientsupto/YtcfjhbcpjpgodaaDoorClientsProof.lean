/- Proved here: ClientsUptoCardSaid: called with whatever list of numbers and whatever list of tries (together of the form's bulk), in whatever world in which the listed variables lie as the program's text lays them, Clients returns true, and whatever was there reads as it did. -/
import Derived.Test.YtcfjhbcpjpgodaaDoorCards
import Derived.Test.YtcfjhbcpjpgodaaDoorTie
import Derived.Test.YtcfjhbcpjpgodaaDoorClientsWalk
import Derived.Test.YtcfjhbcpjpgodaaDoorJ50
import Derived.LaidHandle
import Derived.ProofKit
import Derived.LaidMore
import Derived.OpenShut
import Derived.Stop.Joined
import Derived.Deep.DeepHandedRow
import Derived.Deep.DeepWitnessRowRef
import Derived.Shelf.Vars
namespace Go.Proofs.YtcfjhbcpjpgodaaDoor
open Go.ChangeShapes Go.WideShapes Go.ChangeAt Go.RowKit

theorem clients_own : ownKnob Tryd.prog.godebug = none := by kernel_rfl

theorem laidMet_tail {P : Program} {x : String × DataW Unit} {r : List (String × DataW Unit)} {w : World} (h : laidMet P (x :: r) w) : laidMet P r w := by
  obtain ⟨ps, hv, hnd, hrows⟩ := h
  obtain ⟨g, t, cs, fuel, p, q, _, _, _, _, hq, rfl⟩ := hv
  refine ⟨q, hq, List.Nodup.sublist (List.sublist_append_right _ _) hnd, fun b off hm => hrows b off (by simp [hm])⟩

theorem Tryd.etC : Tryd.prog.globalNamed "errors.errorType" = some 12 := by kernel_rfl
theorem Tryd.rtC : (Tryd.prog.cutTypes.find? (·.1 == "internal/reflectlite.rtype")).map (·.2) = some 144 := by kernel_rfl
theorem Tryd.oneRowC : ((List.range 219).filter fun t => Tryd.prog.rowNamed t [101, 114, 114, 111, 114]) = [23] := by kernel_rfl
theorem Tryd.sizeC : Tryd.prog.types.size = 219 := by kernel_rfl
theorem Tryd.handleC : typeHandle Tryd.prog 23 = .pointer (some ⟨16, 23, none⟩) := by kernel_rfl

theorem clients_parts {W : World} (h : laidMetH Tryd.prog Rows.clientsUptoRow.laid W) : (∃ es, Sent es W) ∧ TypAt W := by
  have f1 : (Rows.clientsUptoRow.laid.filter fun x => x.2.handleName?.isSome) = [("errors.errorType", Rows.laid_errors_errorType)] := by kernel_rfl
  have f2 : (Rows.clientsUptoRow.laid.filter fun x => x.2.handleName?.isNone) = Rows.foldsUptoRow.laid := by kernel_rfl
  unfold laidMetH at h
  rw [f1, f2] at h
  have h' : laidMet Tryd.prog Rows.foldsUptoRow.laid W ∧ handlesMet Tryd.prog [("errors.errorType", Rows.laid_errors_errorType)] W := h
  refine ⟨sent_of_laid [("unicode/utf8.first", Rows.laid_unicode_utf8_first)] (laidMet_tail h'.1), ?_⟩
  obtain ⟨name, u, ty, e1, e2, e3, e4, e5⟩ := h'.2 _ (List.mem_singleton.2 rfl)
  have en : name = [101, 114, 114, 111, 114] := (Option.some.inj e1).symm
  subst en
  obtain rfl := Option.some.inj (Tryd.rtC.symm.trans e2)
  have hm : ty ∈ (List.range 219).filter fun t => Tryd.prog.rowNamed t [101, 114, 114, 111, 114] := List.mem_filter.2 ⟨List.mem_range.2 (by rw [← Tryd.sizeC]; exact e3), e4⟩
  rw [Tryd.oneRowC] at hm
  obtain rfl := List.mem_singleton.1 hm
  rw [Tryd.handleC] at e5
  unfold TypAt
  simpa using World.var?_cell Tryd.etC e5 0

theorem clients_door (os : Os) (args : Array Value) : laidMetH Tryd.prog Rows.clientsUptoRow.laid (({ World.doorLaid Tryd.prog 254 os with heap := (((World.doorLaid Tryd.prog 254 os).heap.modify 12 fun o => match o with | .cells _ t frozen => .cells #[.iface 144 (.agg #[.pointer (some ⟨16, 23, none⟩)])] t frozen | o => o).modify 15 fun o => match o with | .cells _ t frozen => .cells ([128, 191, 160, 191, 128, 159, 144, 191, 128, 143, 0, 0, 0, 0, 0, 0, 0, 0, 0, 0, 0, 0, 0, 0, 0, 0, 0, 0, 0, 0, 0, 0].map fun (z : Nat) => Value.int .u8 (z : Int)).toArray t frozen | o => o).modify 14 fun o => match o with | .cells _ t frozen => .cells (Go.Pinned.utf8FirstZ.map fun (z : Nat) => Value.int .u8 (z : Int)).toArray t frozen | o => o } : World).forCall (fun _ _ => 0) ⟨#[], args, []⟩).memory :=
  laidMetH_of_parts (laidMet_of_run' 8 (by kernel_rfl) (by kernel_rfl)) (by kernel_rfl)
theorem clients_reads (os : Os) {H : Type} (enc : TypeId × Value → H) : ∃ places, DataW.whole enc Tryd.prog (({ World.doorLaid Tryd.prog 254 os with heap := (((World.doorLaid Tryd.prog 254 os).heap.modify 12 fun o => match o with | .cells _ t frozen => .cells #[.iface 144 (.agg #[.pointer (some ⟨16, 23, none⟩)])] t frozen | o => o).modify 15 fun o => match o with | .cells _ t frozen => .cells ([128, 191, 160, 191, 128, 159, 144, 191, 128, 143, 0, 0, 0, 0, 0, 0, 0, 0, 0, 0, 0, 0, 0, 0, 0, 0, 0, 0, 0, 0, 0, 0].map fun (z : Nat) => Value.int .u8 (z : Int)).toArray t frozen | o => o).modify 14 fun o => match o with | .cells _ t frozen => .cells (Go.Pinned.utf8FirstZ.map fun (z : Nat) => Value.int .u8 (z : Int)).toArray t frozen | o => o } : World).forCall (fun _ _ => 0) ⟨#[], #[.slice none 0 0, .slice none 0 0], []⟩).memory Tryd.f6.params.toList Rows.clientsSpec.vars false #[Value.slice none 0 0, Value.slice none 0 0].toList 8 = some ([.nil, .nil], [], places) :=
  ⟨[], by kernel_rfl⟩

set_option maxRecDepth 100000 in
theorem clients_lifted (os : Os) (started : os.Started) (H : Type) (enc : TypeId × Value → H) (F : Stop.Interp) :
    ReturnsInHanded {} Tryd.checked os 6 .any ((Rows.OpenSpec.upto Rows.clientsSpec).preRow enc Tryd.prog Tryd.f6 Rows.clientsUptoRow.domain false Rows.clientsUptoRow.laid) (((Rows.OpenSpec.upto Rows.clientsSpec).at F).post enc Tryd.prog Tryd.f6 false true false false) := by
  obtain ⟨places, hx⟩ := clients_reads os enc
  refine returnsInHanded_of_row (C := Tryd.checked) (s := Rows.OpenSpec.upto Rows.clientsSpec) clients_own started (by kernel_rfl) Tryd.func6
    (witness_row_atRef (enc := enc) (C := Tryd.checked) false ({ World.doorLaid Tryd.prog 254 os with heap := (((World.doorLaid Tryd.prog 254 os).heap.modify 12 fun o => match o with | .cells _ t frozen => .cells #[.iface 144 (.agg #[.pointer (some ⟨16, 23, none⟩)])] t frozen | o => o).modify 15 fun o => match o with | .cells _ t frozen => .cells ([128, 191, 160, 191, 128, 159, 144, 191, 128, 143, 0, 0, 0, 0, 0, 0, 0, 0, 0, 0, 0, 0, 0, 0, 0, 0, 0, 0, 0, 0, 0, 0].map fun (z : Nat) => Value.int .u8 (z : Int)).toArray t frozen | o => o).modify 14 fun o => match o with | .cells _ t frozen => .cells (Go.Pinned.utf8FirstZ.map fun (z : Nat) => Value.int .u8 (z : Int)).toArray t frozen | o => o } : World) #[.slice none 0 0, .slice none 0 0] rfl (by kernel_rfl) (by kernel_rfl) (by kernel_rfl)
      (OpenSpec.preRow_of_cond 8 hx (by kernel_rfl) (fun k hk => by cases hk; kernel_rfl) (by kernel_rfl) (clients_door os _))) ?_
  intro W base args ds gs before hval0 hW _ hcond _ hL hsh _
  have hval : ∀ (j : Nat) t v, Tryd.f6.params[j]? = some t → args[j]? = some v → Value.okWide Tryd.prog W .any base t v := hval0
  have hW' := hW
  obtain ⟨p, q, hA0, hV, rfl, hfz, hnd⟩ := hW
  have hA : DataW.TrodAll enc Tryd.prog W 0 (fun _ => true) true Tryd.f6.params.toList args.toList ds p := hA0
  rw [Tryd.params6] at hA hval
  obtain ⟨v0, v1, d0, d1, p0, p1, rfl, rfl, rfl, h0, h1⟩ := trodAll_two hA
  obtain ⟨rfl, rfl⟩ := trodVars_none hV
  obtain ⟨⟨es, hS⟩, hTy⟩ := clients_parts hL
  obtain ⟨m, hm⟩ := cell_of_shapedOpen_int (P := Tryd.prog) (g := 13) (t := 3) (zero := #[.int .i64 0]) hsh (of_decide_eq_true (by kernel_rfl)) (by kernel_rfl) rfl (by kernel_rfl) (by kernel_rfl) Tryd.underlying3
  obtain ⟨pa, n, cap, g, rfl, hp, hg, hn, hlt0⟩ := open_nums (hval 0 38 v0 rfl rfl) h0
  have hk := hcond _ rfl
  have hbd : Rows.uptoBulk d0 + Rows.uptoBulk d1 ≤ 1048576 := by
    have h2 := of_decide_eq_true hk
    simp only [List.cons_append, List.nil_append, Rows.uptoBulkAll] at h2
    omega
  obtain ⟨tp, tn, tcap, ts, rfl, hts, hok, htn, hlt1⟩ := open_tries (by omega) (hval 1 63 v1 rfl rfl) h1
  clear hA0 hval0
  refine (clients_walk g pa n cap ts tp tn tcap es m W (by omega) (by omega) hp hg hts hok hS hTy hm).mono fun e W' ⟨he, hb⟩ => ?_
  subst he
  have e1 : ((Rows.OpenSpec.upto Rows.clientsSpec).at F).fn H ([d0, d1] ++ []) = { results := [.lit (.bool true)], args := [d0, d1] } := rfl
  refine ⟨_, rfl, _, _, _, [], p0 ++ p1, [], hW', ?_, ?_, ?_, hb.frame _, fun h => by cases h⟩
  · rw [e1]; exact trodAll_mk1 (shut_bool Tryd.underlying4 true)
  · rw [e1]
    exact trodAll_mk2 (Below.trod (by kernel_rfl) (by kernel_rfl) (of_decide_eq_true (by kernel_rfl)) h0 hb hlt0) (Below.trod (by kernel_rfl) (by kernel_rfl) (of_decide_eq_true (by kernel_rfl)) h1 hb hlt1)
  · rw [e1]; rfl

theorem clients_holds : Rows.ClientsUptoSaid :=
  OpenClaim.holds_of_cond 6 Tryd.f6 rfl rfl rfl rfl rfl rfl rfl ⟨rfl, rfl, rfl, rfl, rfl⟩ rfl rfl rfl rfl rfl (by kernel_rfl) Tryd.func6 (by kernel_rfl)
    (of_decide_eq_true (by kernel_rfl)) (by unfold Func.isWrapper; first | (rw [if_pos (by decide +kernel)]; kernel_rfl) | (rw [if_neg (by decide +kernel)]; exact ⟨rfl, rfl⟩))
    (fun os started H enc _ F => by rw [OpenClaim.pre_eq_preRow]; exact clients_lifted os started H enc F)

theorem clients_plain (f : FuncId) (fn : Func) (hf : Tryd.pinned.checked.prog.funcNamed "synod/synodlaw.Clients" = some f) (hfn : Tryd.pinned.checked.prog.funcs[f]? = some fn) :
    true = Tryd.pinned.checked.prog.looks [] ∧ ∀ (j : Nat) t, fn.params[j]? = some t → Tryd.pinned.checked.prog.wantsStandIn t = false := by
  obtain rfl : f = 6 := Option.some.inj ((show Tryd.prog.funcNamed "synod/synodlaw.Clients" = some 6 by kernel_rfl).symm.trans hf) |>.symm
  obtain rfl : fn = Tryd.f6 := (Option.some.inj (Tryd.func6.symm.trans hfn)).symm
  refine ⟨by kernel_rfl, fun j t ht => ?_⟩
  rw [Tryd.params6] at ht
  have hm : t ∈ [38, 63] := by simpa using Array.mem_of_getElem? ht
  have hall : ([38, 63].all fun u => !Tryd.prog.wantsStandIn u) = true := by kernel_rfl
  exact (show Tryd.prog.wantsStandIn t = false by simpa using List.all_eq_true.1 hall t hm)

theorem clients_card : Rows.ClientsUptoCardSaid :=
  Claim7.holds_tied_plain_at .later [] _ _ _ _ clients_holds (fun _ h => by cases h) (by kernel_rfl) (fun _ h => by cases h) clientsUpto_row_tie rfl ⟨rfl, rfl⟩ (by kernel_rfl) rfl clients_plain (by kernel_rfl)

#print axioms clients_card
end Go.Proofs.YtcfjhbcpjpgodaaDoor
