/- Proved here: BlamesUptoCardSaid: called with whatever messages, texts and numbers (together of the form's bulk), in whatever world in which the listed variables lie as the program's text lays them, Blames returns true, and whatever was there reads as it did. -/
import Derived.Test.YtcfjhbcpjpgodaaDoorCards
import Derived.Test.YtcfjhbcpjpgodaaDoorTie
import Derived.Test.YtcfjhbcpjpgodaaDoorBlamesWalk
import Derived.Test.YtcfjhbcpjpgodaaDoorJ50
import Derived.Test.YtcfjhbcpjpgodaaDoorSents
import Derived.ProofKit
import Derived.LaidMore
import Derived.OpenShut
import Derived.Stop.Joined
import Derived.Deep.DeepHandedRow
import Derived.Deep.DeepWitnessRowRef
import Derived.Shelf.Vars
namespace Go.Proofs.YtcfjhbcpjpgodaaDoor
open Go.ChangeShapes Go.WideShapes Go.ChangeAt Go.RowKit

theorem blames_own : ownKnob Tryd.prog.godebug = none := by kernel_rfl

/-- The two sentinels that the row lists. -/
def blSentNames : List (String × List UInt8) := [("synod/api.ErrForm", [110, 111, 32, 102, 114, 97, 109, 101]), ("synod/api.ErrSeal", [110, 111, 116, 32, 115, 105, 103, 110, 101, 100, 32, 98, 121, 32, 105, 116, 115, 32, 115, 101, 110, 100, 101, 114])]
def blSentGs : List Nat := [1, 2]
theorem Tryd.blSentG : blSentNames.map (fun x => Tryd.prog.globalNamed x.1) = blSentGs.map some := by kernel_rfl
theorem Tryd.blSentT (g : Nat) (h : g ∈ blSentGs) : (Tryd.prog.globals[g]?).map (·.type) = some 23 := by
  have ha : (blSentGs.all fun g => (Tryd.prog.globals[g]?).map (·.type) == some 23) = true := by kernel_rfl
  simpa using List.all_eq_true.1 ha g h
theorem blames_sent {W : World} (h : laidMetH Tryd.prog Rows.blamesUptoRow.laid W) : ∃ bF bS, ErrAt W 1 bF ∧ ErrAt W 2 bS := by
  rw [MakeChecks.laidMetH_plain _ _ _ (by kernel_rfl)] at h
  obtain ⟨es, hS⟩ := sents_of_laid Tryd.underlying23 Tryd.rowE Tryd.underlying188 Tryd.underlying207 rfl rfl Tryd.underlying9 Tryd.cellsE Tryd.cellsS [] blSentNames blSentGs Tryd.blSentG Tryd.blSentT h
  have hl := hS.len
  match es, hl with
  | [bF, bS], _ => exact ⟨bF, bS, hS.cell 0 _ bF rfl rfl, hS.cell 1 _ bS rfl rfl⟩

theorem blames_door (os : Os) (args : Array Value) : laidMet Tryd.prog Rows.blamesUptoRow.laid ((World.doorLaid Tryd.prog 254 os).forCall (fun _ _ => 0) ⟨#[], args, []⟩).memory :=
  laidMet_of_run' 8 (by kernel_rfl) (by kernel_rfl)
theorem blames_reads (os : Os) {H : Type} (enc : TypeId × Value → H) : ∃ places, DataW.whole enc Tryd.prog ((World.doorLaid Tryd.prog 254 os).forCall (fun _ _ => 0) ⟨#[], #[.slice none 0 0, .int .i64 0, .slice none 0 0, .int .i64 0], []⟩).memory Tryd.f7.params.toList Rows.blamesSpec.vars false #[Value.slice none 0 0, Value.int .i64 0, Value.slice none 0 0, Value.int .i64 0].toList 8 = some ([.nil, .lit (.int .i64 0), .nil, .lit (.int .i64 0)], [], places) :=
  ⟨[], by kernel_rfl⟩

set_option maxRecDepth 100000 in
theorem blames_lifted (os : Os) (started : os.Started) (H : Type) (enc : TypeId × Value → H) (F : Stop.Interp) :
    ReturnsInHanded {} Tryd.checked os 7 .any ((Rows.OpenSpec.upto Rows.blamesSpec).preRow enc Tryd.prog Tryd.f7 Rows.blamesUptoRow.domain false Rows.blamesUptoRow.laid) (((Rows.OpenSpec.upto Rows.blamesSpec).at F).post enc Tryd.prog Tryd.f7 false true false false) := by
  obtain ⟨places, hx⟩ := blames_reads os enc
  refine returnsInHanded_of_row (C := Tryd.checked) (s := Rows.OpenSpec.upto Rows.blamesSpec) blames_own started (by kernel_rfl) Tryd.func7
    (witness_row_atRef (enc := enc) (C := Tryd.checked) false (World.doorLaid Tryd.prog 254 os) #[.slice none 0 0, .int .i64 0, .slice none 0 0, .int .i64 0] rfl (by kernel_rfl) (by kernel_rfl) (by kernel_rfl)
      (OpenSpec.preRow_of_cond 8 hx (by kernel_rfl) (fun k hk => by cases hk; kernel_rfl) (by kernel_rfl) (blames_door os _))) ?_
  intro W base args ds gs before hval0 hW _ hcond _ hL _ _
  have hval : ∀ (j : Nat) t v, Tryd.f7.params[j]? = some t → args[j]? = some v → Value.okWide Tryd.prog W .any base t v := hval0
  have hW' := hW
  obtain ⟨p, q, hA0, hV, rfl, hfz, hnd⟩ := hW
  have hA : DataW.TrodAll enc Tryd.prog W 0 (fun _ => true) true Tryd.f7.params.toList args.toList ds p := hA0
  rw [Tryd.params7] at hA hval
  obtain ⟨v0, v1, v2, v3, d0, d1, d2, d3, p0, p1, p2, p3, rfl, rfl, rfl, h0, h1, h2, h3⟩ := trodAll_four hA
  obtain ⟨rfl, rfl⟩ := trodVars_none hV
  obtain ⟨bF, bS, hEF, hES⟩ := blames_sent hL
  obtain ⟨mp, mn, mcap, ms, rfl, hms, hmo, hmn, hlt0⟩ := open_msgs (hval 0 76 v0 rfl rfl) h0
  obtain ⟨lp, l, lcap, rfl, hlp, hl, hln, hls, hlt2⟩ := open_texts (hval 2 39 v2 rfl rfl) h2
  obtain ⟨said, rfl, rfl, rfl, _⟩ := open_int Tryd.underlying3 (hval 1 3 v1 rfl rfl) h1
  obtain ⟨cut, rfl, rfl, rfl, wc⟩ := open_int Tryd.underlying3 (hval 3 3 v3 rfl rfl) h3
  have hk := hcond _ rfl
  have hbd : Rows.uptoBulk d0 + Rows.uptoBulk d2 ≤ 1048576 := by
    have h2 := of_decide_eq_true hk
    simp only [List.cons_append, List.nil_append, Rows.uptoBulkAll] at h2
    omega
  clear hA0 hval0
  refine (blames_walk bF bS said cut (bounds_i64 wc).1 (bounds_i64 wc).2 ms mp mn mcap (fun i => l.getD i ByteArray.empty) lp l.length lcap W (by omega) (by omega) hms hmo hlp hl (fun i hi => by have := hls i hi; unfold maxLen; omega) hEF hES).mono fun e W' ⟨he, hb⟩ => ?_
  subst he
  have e1 : ((Rows.OpenSpec.upto Rows.blamesSpec).at F).fn H ([d0, .lit (.int .i64 said), d2, .lit (.int .i64 cut)] ++ []) = { results := [.lit (.bool true)], args := [d0, .lit (.int .i64 said), d2, .lit (.int .i64 cut)] } := rfl
  refine ⟨_, rfl, _, _, _, [], p0 ++ ([] ++ (p2 ++ [])), [], hW', ?_, ?_, ?_, hb.frame _, fun h => by cases h⟩
  · rw [e1]; exact trodAll_mk1 (shut_bool Tryd.underlying4 true)
  · rw [e1]
    exact trodAll_mk4 (Below.trod (by kernel_rfl) (by kernel_rfl) (of_decide_eq_true (by kernel_rfl)) h0 hb hlt0) (Below.trod (by kernel_rfl) (by kernel_rfl) (of_decide_eq_true (by kernel_rfl)) h1 hb (fun x hx => by cases hx)) (Below.trod (by kernel_rfl) (by kernel_rfl) (of_decide_eq_true (by kernel_rfl)) h2 hb hlt2) (Below.trod (by kernel_rfl) (by kernel_rfl) (of_decide_eq_true (by kernel_rfl)) h3 hb (fun x hx => by cases hx))
  · rw [e1]; rfl

theorem blames_holds : Rows.BlamesUptoSaid :=
  OpenClaim.holds_of_cond 7 Tryd.f7 rfl rfl rfl rfl rfl rfl rfl ⟨rfl, rfl, rfl, rfl, rfl⟩ rfl rfl rfl rfl rfl (by kernel_rfl) Tryd.func7 (by kernel_rfl)
    (of_decide_eq_true (by kernel_rfl)) (by unfold Func.isWrapper; first | (rw [if_pos (by decide +kernel)]; kernel_rfl) | (rw [if_neg (by decide +kernel)]; exact ⟨rfl, rfl⟩))
    (fun os started H enc _ F => by rw [OpenClaim.pre_eq_preRow]; exact blames_lifted os started H enc F)

theorem blames_plain (f : FuncId) (fn : Func) (hf : Tryd.pinned.checked.prog.funcNamed "synod/synodlaw.Blames" = some f) (hfn : Tryd.pinned.checked.prog.funcs[f]? = some fn) :
    true = Tryd.pinned.checked.prog.looks [] ∧ ∀ (j : Nat) t, fn.params[j]? = some t → Tryd.pinned.checked.prog.wantsStandIn t = false := by
  obtain rfl : f = 7 := Option.some.inj ((show Tryd.prog.funcNamed "synod/synodlaw.Blames" = some 7 by kernel_rfl).symm.trans hf) |>.symm
  obtain rfl : fn = Tryd.f7 := (Option.some.inj (Tryd.func7.symm.trans hfn)).symm
  refine ⟨by kernel_rfl, fun j t ht => ?_⟩
  rw [Tryd.params7] at ht
  have hm : t ∈ [76, 3, 39, 3] := by simpa using Array.mem_of_getElem? ht
  have hall : ([76, 3, 39, 3].all fun u => !Tryd.prog.wantsStandIn u) = true := by kernel_rfl
  exact (show Tryd.prog.wantsStandIn t = false by simpa using List.all_eq_true.1 hall t hm)

theorem blames_card : Rows.BlamesUptoCardSaid :=
  Claim7.holds_tied_plain_at .later [] _ _ _ _ blames_holds (fun _ h => by cases h) (by kernel_rfl) (fun _ h => by cases h) blamesUpto_row_tie rfl ⟨rfl, rfl⟩ (by kernel_rfl) rfl blames_plain (by kernel_rfl)

#print axioms blames_card
end Go.Proofs.YtcfjhbcpjpgodaaDoor
