/- Proved here: StrayUptoCardSaid: called with whatever list of numbers, whatever number, whatever acts and whatever frames (together of the form's bulk), in whatever world in which the listed variables lie as the program's text lays them, Stray returns true, and whatever was there reads as it did. -/
import Derived.Test.YtcfjhbcpjpgodaaGreatDoorCards
import Derived.Test.YtcfjhbcpjpgodaaGreatDoorTie
import Derived.Test.YtcfjhbcpjpgodaaGreatDoorJ48
import Derived.LaidHandle
import Derived.ProofKit
import Derived.LaidMore
import Derived.OpenShut
import Derived.Stop.Joined
import Derived.Deep.DeepHandedRow
import Derived.Deep.DeepWitnessRowRef
import Derived.Shelf.Vars
namespace Go.Proofs.YtcfjhbcpjpgodaaGreatDoor
open Go.ChangeShapes Go.WideShapes Go.ChangeAt Go.RowKit

theorem stray_own : ownKnob Tryz.prog.godebug = none := by kernel_rfl

theorem laidMet_tail {P : Program} {x : String × DataW Unit} {r : List (String × DataW Unit)} {w : World} (h : laidMet P (x :: r) w) : laidMet P r w := by
 obtain ⟨ps, hv, hnd, hrows⟩ := h
 obtain ⟨g, t, cs, fuel, p, q, _, _, _, _, hq, rfl⟩ := hv
 refine ⟨q, hq, List.Nodup.sublist (List.sublist_append_right _ _) hnd, fun b off hm => hrows b off (by simp [hm])⟩

def tenNames : List (String × List UInt8) := [("synod/api.ErrArg", [119, 104, 97, 116, 32, 109, 97, 121, 32, 110, 111, 116, 32, 98, 101]), ("synod/api.ErrForm", [110, 111, 32, 102, 114, 97, 109, 101]), ("synod/api.ErrSeal", [110, 111, 116, 32, 115, 105, 103, 110, 101, 100, 32, 98, 121, 32, 105, 116, 115, 32, 115, 101, 110, 100, 101, 114]), ("synod/api.ErrPast", [111, 102, 32, 97, 32, 104, 101, 105, 103, 104, 116, 32, 116, 104, 97, 116, 32, 105, 115, 32, 100, 101, 99, 105, 100, 101, 100]), ("synod/api.ErrFar", [111, 102, 32, 97, 32, 104, 101, 105, 103, 104, 116, 32, 111, 114, 32, 114, 111, 117, 110, 100, 32, 116, 111, 111, 32, 102, 97, 114, 32, 97, 119, 97, 121]), ("synod/api.ErrOutsider", [102, 114, 111, 109, 32, 111, 110, 101, 32, 119, 104, 111, 32, 104, 97, 115, 32, 110, 111, 32, 115, 97, 121, 32, 105, 110, 32, 116, 104, 105, 115]), ("synod/api.ErrKnown", [107, 110, 111, 119, 110, 32, 97, 108, 114, 101, 97, 100, 121]), ("synod/api.ErrMany", [109, 111, 114, 101, 32, 116, 104, 97, 110, 32, 111, 110, 101, 32, 109, 97, 121, 32, 115, 97, 121]), ("synod/api.ErrFull", [109, 111, 114, 101, 32, 116, 104, 97, 110, 32, 109, 97, 121, 32, 119, 97, 105, 116]), ("synod/api.ErrRecord", [110, 111, 32, 103, 111, 111, 100, 32, 114, 101, 99, 111, 114, 100, 32, 111, 114, 32, 98, 108, 111, 99, 107])]
def tenGs : List Nat := [1, 2, 3, 0, 4, 5, 6, 7, 8, 11]
theorem Tryz.tenG : tenNames.map (fun x => Tryz.prog.globalNamed x.1) = tenGs.map some := by kernel_rfl
theorem Tryz.tenT (g : Nat) (h : g ∈ tenGs) : (Tryz.prog.globals[g]?).map (·.type) = some 42 := by
 have ha : (tenGs.all fun g => (Tryz.prog.globals[g]?).map (·.type) == some 42) = true := by kernel_rfl
 simpa using List.all_eq_true.1 ha g h

set_option linter.unusedSimpArgs false in
theorem ten_twelve {es10 : List Addr} {w : World} (h : SentIn 294 tenGs es10 w) : ∃ es, SentN es w ∧ GlobR w.heap.size es w := by
 have hl := h.len
 match es10, hl with
 | [a0, a1, a2, a3, a4, a5, a6, a7, a8, a9], _ =>
  obtain ⟨M, hM⟩ : ∃ M, M = a0.off + a1.off + a2.off + a3.off + a4.off + a5.off + a6.off + a7.off + a8.off + a9.off := ⟨_, rfl⟩
  obtain ⟨d, hd⟩ : ∃ d : Nat → Addr, d = fun k => ⟨a0.block, M + 1 + k, none⟩ := ⟨_, rfl⟩
  have hoff : ∀ k, (d k).off = M + 1 + k := fun k => by rw [hd]
  have hblk : ∀ k, (d k).block = a0.block := fun k => by rw [hd]
  have hdd : d 0 ≠ d 1 := fun e => by have := congrArg Addr.off e; rw [hoff, hoff] at this; omega
  have hne : ∀ k a, a ∈ [a0, a1, a2, a3, a4, a5, a6, a7, a8, a9] → d k ≠ a := fun k a ha e => by
   have h1 := congrArg Addr.off e
   rw [hoff] at h1
   simp only [List.mem_cons, List.not_mem_nil, or_false] at ha
   rcases ha with rfl | rfl | rfl | rfl | rfl | rfl | rfl | rfl | rfl | rfl <;> omega
  have hnd : ([a0, a1, a2, a3, a4, a5, a6, a7, a8, d 0, d 1, a9] : List Addr).Nodup := by
   have hp : ([a0, a1, a2, a3, a4, a5, a6, a7, a8, d 0, d 1, a9] : List Addr).Perm ([d 0, d 1] ++ [a0, a1, a2, a3, a4, a5, a6, a7, a8, a9]) := by
    have h1 : ([a0, a1, a2, a3, a4, a5, a6, a7, a8, d 0, d 1, a9] : List Addr) = [a0, a1, a2, a3, a4, a5, a6, a7, a8] ++ ([d 0, d 1] ++ [a9]) := rfl
    have h2 : ([d 0, d 1] ++ [a0, a1, a2, a3, a4, a5, a6, a7, a8, a9] : List Addr) = [d 0, d 1] ++ ([a0, a1, a2, a3, a4, a5, a6, a7, a8] ++ [a9]) := rfl
    rw [h1, h2, ← List.append_assoc, ← List.append_assoc]
    exact List.perm_append_comm.append_right _
   rw [hp.nodup_iff, List.nodup_append]
   refine ⟨by simp [hdd], h.nodup, fun x hx y hy e => ?_⟩
   simp only [List.mem_cons, List.not_mem_nil, or_false] at hx
   rcases hx with rfl | rfl
   · exact hne 0 y hy e
   · exact hne 1 y hy e
  have hc : ∀ (i g : Nat) (a : Addr), sentGs[i]? = some g → [a0, a1, a2, a3, a4, a5, a6, a7, a8, d 0, d 1, a9][i]? = some a → i ≠ 9 ∧ i ≠ 10 → w.cell? ⟨g, 0, none⟩ = some (.iface 294 (.pointer (some a))) := fun i g a hg ha h9 => by
   match i, hg, ha, h9 with
   | 0, hg, ha, _ =>
    have e1 : 1 = g := Option.some.inj hg
    have e2 : a0 = a := Option.some.inj ha
    rw [← e1, ← e2]; exact h.cell 0 _ _ rfl rfl
   | 1, hg, ha, _ =>
    have e1 : 2 = g := Option.some.inj hg
    have e2 : a1 = a := Option.some.inj ha
    rw [← e1, ← e2]; exact h.cell 1 _ _ rfl rfl
   | 2, hg, ha, _ =>
    have e1 : 3 = g := Option.some.inj hg
    have e2 : a2 = a := Option.some.inj ha
    rw [← e1, ← e2]; exact h.cell 2 _ _ rfl rfl
   | 3, hg, ha, _ =>
    have e1 : 0 = g := Option.some.inj hg
    have e2 : a3 = a := Option.some.inj ha
    rw [← e1, ← e2]; exact h.cell 3 _ _ rfl rfl
   | 4, hg, ha, _ =>
    have e1 : 4 = g := Option.some.inj hg
    have e2 : a4 = a := Option.some.inj ha
    rw [← e1, ← e2]; exact h.cell 4 _ _ rfl rfl
   | 5, hg, ha, _ =>
    have e1 : 5 = g := Option.some.inj hg
    have e2 : a5 = a := Option.some.inj ha
    rw [← e1, ← e2]; exact h.cell 5 _ _ rfl rfl
   | 6, hg, ha, _ =>
    have e1 : 6 = g := Option.some.inj hg
    have e2 : a6 = a := Option.some.inj ha
    rw [← e1, ← e2]; exact h.cell 6 _ _ rfl rfl
   | 7, hg, ha, _ =>
    have e1 : 7 = g := Option.some.inj hg
    have e2 : a7 = a := Option.some.inj ha
    rw [← e1, ← e2]; exact h.cell 7 _ _ rfl rfl
   | 8, hg, ha, _ =>
    have e1 : 8 = g := Option.some.inj hg
    have e2 : a8 = a := Option.some.inj ha
    rw [← e1, ← e2]; exact h.cell 8 _ _ rfl rfl
   | 9, hg, ha, h9 => exact absurd rfl h9.1
   | 10, hg, ha, h9 => exact absurd rfl h9.2
   | 11, hg, ha, _ =>
    have e1 : 11 = g := Option.some.inj hg
    have e2 : a9 = a := Option.some.inj ha
    rw [← e1, ← e2]; exact h.cell 9 _ _ rfl rfl
   | k + 12, hg, _, _ => cases hg
  refine ⟨[a0, a1, a2, a3, a4, a5, a6, a7, a8, d 0, d 1, a9], ⟨rfl, hnd, fun i g a hg ha hi => hc i g a hg ha ?_, fun a ha => ?_⟩, fun i g a hg ha hi => hc i g a hg ha ?_, fun i g hg hi => ?_⟩
  · constructor <;> (intro e; subst e; cases hi)
  · have hb0 := h.blk a0 (by simp)
    simp only [List.mem_cons, List.not_mem_nil, or_false] at ha
    rcases ha with rfl | rfl | rfl | rfl | rfl | rfl | rfl | rfl | rfl | rfl | rfl | rfl
    · exact hb0
    · exact h.blk a (by simp)
    · exact h.blk a (by simp)
    · exact h.blk a (by simp)
    · exact h.blk a (by simp)
    · exact h.blk a (by simp)
    · exact h.blk a (by simp)
    · exact h.blk a (by simp)
    · exact h.blk a (by simp)
    · rw [hblk]; exact hb0
    · rw [hblk]; exact hb0
    · exact h.blk a (by simp)
  · constructor <;> (intro e; subst e; cases hi)
  · have h12 : i < 12 := (List.getElem?_eq_some_iff.1 hg).1
    obtain ⟨a, ha⟩ : ∃ a, [a0, a1, a2, a3, a4, a5, a6, a7, a8, d 0, d 1, a9][i]? = some a := ⟨_, List.getElem?_eq_getElem h12⟩
    exact World.block_lt_of_cell? _ _ (hc i g a hg ha (by constructor <;> (intro e; subst e; cases hi)))

theorem stray_sent {W : World} (h : laidMetH Tryz.prog Rows.strayUptoRow.laid W) : ∃ es, SentN es W ∧ GlobR W.heap.size es W := by
 rw [MakeChecks.laidMetH_plain _ _ _ (by kernel_rfl)] at h
 have h' : laidMet Tryz.prog (("unicode/utf8.acceptRanges", Rows.laid_unicode_utf8_acceptRanges) :: (tenNames.map (fun x => (x.1, .iface "*errors.errorString" (.ptr (.agg [.lit (.string x.2)])))) ++ [("unicode/utf8.first", Rows.laid_unicode_utf8_first)])) W := h
 obtain ⟨es, hS⟩ := sents_of_laid Tryz.underlying42 Tryz.rowE Tryz.underlying294 Tryz.underlying312 rfl rfl Tryz.underlying9 Tryz.cellsE Tryz.cellsS [("unicode/utf8.first", Rows.laid_unicode_utf8_first)] tenNames tenGs Tryz.tenG Tryz.tenT (laidMet_tail h')
 exact ten_twelve hS

theorem glob_ofN {es : List Addr} {m : Int} {W : World} (h : SentN es W) (hm : W.cell? ⟨13, 0, none⟩ = some (.int .i64 m)) : GlobAt W.heap.size es m W := by
 refine ⟨h, hm, fun i g hg hi => ?_, World.block_lt_of_cell? _ _ hm, fun a ha => ?_⟩
 · obtain ⟨a, ha⟩ : ∃ a, es[i]? = some a := by
    have h1 : i < sentGs.length := (List.getElem?_eq_some_iff.1 hg).1
    exact ⟨_, List.getElem?_eq_getElem (by rw [h.len]; exact h1)⟩
   exact World.block_lt_of_cell? _ _ (h.cellF i g a hg ha hi)
 · obtain ⟨c, t, hc⟩ := h.blk a ha
   exact row_lt0 hc

set_option maxRecDepth 100000 in
theorem open_numsS {H : Type} {enc : TypeId × Value → H} {W : World} {base : Nat} {v : Value} {d : DataW H} {p : List MemPlace} (hv : Value.okWide Tryz.prog W .any base 22 v) (h : DataW.Trod enc Tryz.prog W 0 (fun _ => true) true 22 v d p) :
 ∃ (pa : Option Addr) (n cap : Nat) (g : Nat → Int), v = .slice pa n cap ∧ Lies W W.heap.size pa n (fun i => .int .i64 (g i)) ∧ n ≤ Rows.uptoBulk d ∧ (∀ i, i < n → -9223372036854775808 ≤ g i ∧ g i ≤ 9223372036854775807) ∧ ∀ x ∈ p, x.block < W.heap.size := by
 obtain ⟨pa, n, cap, rfl⟩ := okWide_slice Tryz.underlying22 hv
 obtain ⟨fuel, hf⟩ := h
 have hf' : DataW.trod enc Tryz.prog W 0 (fun _ => true) true fuel 22 [.slice pa n cap] = some (d, p) := hf
 rcases open_ints Tryz.underlying22 Tryz.underlying3 Tryz.cellsI hf' with ⟨hcs, hx⟩ | ⟨a, len, cap', zs, hcs, _, hl, hm, hz, hx, hcell, hwf⟩
 · simp at hcs hx
   obtain ⟨rfl, rfl, rfl⟩ := hcs
   obtain ⟨rfl, rfl⟩ := hx
   exact ⟨none, 0, 0, fun _ => 0, rfl, fun i hi => by omega, Nat.zero_le _, fun i hi => by omega, fun x hx => by cases hx⟩
 · simp at hcs hx
   obtain ⟨rfl, rfl, rfl⟩ := hcs
   obtain ⟨rfl, rfl⟩ := hx
   simp only [if_true] at hz
   obtain ⟨b, o, sp⟩ := a
   obtain rfl : sp = none := ok_spot Tryz.underlying22 hv
   have hc2 : ∀ i, i < zs.length → W.cell? ⟨b, o + i, none⟩ = some (.int .i64 (zs.getD i 0)) := fun i hi => by rw [← addr_add]; exact hcell i hi
   refine ⟨_, n, cap, fun i => zs.getD i 0, rfl, fun i hi => ⟨b, o, rfl, World.block_lt_of_cell? _ _ (hc2 i (by omega)), hc2 i (by omega)⟩, ?_, fun i hi => ?_, fun x hx => ?_⟩
   · have h1 := bulk_len (H := H) (lits .i64 (zs.take n))
     have h2 : (lits (H := H) .i64 (zs.take n)).length = n := by simp [lits]; omega
     simp only [Rows.uptoBulk]
     omega
   · have h1 : zs.getD i 0 ∈ zs := by rw [List.getD_eq_getElem?_getD, List.getElem?_eq_getElem (by omega)]; exact List.getElem_mem (by omega)
     have h2 := bounds_i64 (hwf _ h1)
     exact ⟨h2.1, h2.2⟩
   · simp only [MemPlace.row, List.mem_map, List.mem_range] at hx
     obtain ⟨i, hi, rfl⟩ := hx
     exact World.block_lt_of_cell? _ _ (hc2 i hi)

theorem stray_door (os : Os) (args : Array Value) : laidMet Tryz.prog Rows.strayUptoRow.laid (({ World.doorLaid Tryz.prog 254 os with heap := ((World.doorLaid Tryz.prog 254 os).heap.modify 15 fun o => match o with | .cells _ t frozen => .cells ([128, 191, 160, 191, 128, 159, 144, 191, 128, 143, 0, 0, 0, 0, 0, 0, 0, 0, 0, 0, 0, 0, 0, 0, 0, 0, 0, 0, 0, 0, 0, 0].map fun (z : Nat) => Value.int .u8 (z : Int)).toArray t frozen | o => o).modify 14 fun o => match o with | .cells _ t frozen => .cells (Go.Pinned.utf8FirstZ.map fun (z : Nat) => Value.int .u8 (z : Int)).toArray t frozen | o => o } : World).forCall (fun _ _ => 0) ⟨#[], args, []⟩).memory :=
 laidMet_of_run' 8 (by kernel_rfl) (by kernel_rfl)
theorem stray_reads (os : Os) {H : Type} (enc : TypeId × Value → H) : ∃ places, DataW.whole enc Tryz.prog (({ World.doorLaid Tryz.prog 254 os with heap := ((World.doorLaid Tryz.prog 254 os).heap.modify 15 fun o => match o with | .cells _ t frozen => .cells ([128, 191, 160, 191, 128, 159, 144, 191, 128, 143, 0, 0, 0, 0, 0, 0, 0, 0, 0, 0, 0, 0, 0, 0, 0, 0, 0, 0, 0, 0, 0, 0].map fun (z : Nat) => Value.int .u8 (z : Int)).toArray t frozen | o => o).modify 14 fun o => match o with | .cells _ t frozen => .cells (Go.Pinned.utf8FirstZ.map fun (z : Nat) => Value.int .u8 (z : Int)).toArray t frozen | o => o } : World).forCall (fun _ _ => 0) ⟨#[], #[.slice none 0 0, .int .i64 0, .slice none 0 0, .slice none 0 0], []⟩).memory Tryz.f4.params.toList Rows.straySpec.vars false #[Value.slice none 0 0, Value.int .i64 0, Value.slice none 0 0, Value.slice none 0 0].toList 8 = some ([.nil, .lit (.int .i64 0), .nil, .nil], [], places) :=
 ⟨[], by kernel_rfl⟩

set_option maxRecDepth 100000 in
theorem stray_lifted (os : Os) (started : os.Started) (H : Type) (enc : TypeId × Value → H) (F : Stop.Interp) :
 ReturnsInHanded {} Tryz.checked os 4 .any ((Rows.OpenSpec.upto Rows.straySpec).preRow enc Tryz.prog Tryz.f4 Rows.strayUptoRow.domain false Rows.strayUptoRow.laid) (((Rows.OpenSpec.upto Rows.straySpec).at F).post enc Tryz.prog Tryz.f4 false true false false) := by
 obtain ⟨places, hx⟩ := stray_reads os enc
 refine returnsInHanded_of_row (C := Tryz.checked) (s := Rows.OpenSpec.upto Rows.straySpec) stray_own started (by kernel_rfl) Tryz.func4
  (witness_row_atRef (enc := enc) (C := Tryz.checked) false ({ World.doorLaid Tryz.prog 254 os with heap := ((World.doorLaid Tryz.prog 254 os).heap.modify 15 fun o => match o with | .cells _ t frozen => .cells ([128, 191, 160, 191, 128, 159, 144, 191, 128, 143, 0, 0, 0, 0, 0, 0, 0, 0, 0, 0, 0, 0, 0, 0, 0, 0, 0, 0, 0, 0, 0, 0].map fun (z : Nat) => Value.int .u8 (z : Int)).toArray t frozen | o => o).modify 14 fun o => match o with | .cells _ t frozen => .cells (Go.Pinned.utf8FirstZ.map fun (z : Nat) => Value.int .u8 (z : Int)).toArray t frozen | o => o } : World) #[.slice none 0 0, .int .i64 0, .slice none 0 0, .slice none 0 0] rfl (by kernel_rfl) (by kernel_rfl) (by kernel_rfl)
   (OpenSpec.preRow_of_cond 8 hx (by kernel_rfl) (fun k hk => by cases hk; kernel_rfl) (by kernel_rfl) (stray_door os _))) ?_
 intro W base args ds gs before hval0 hW _ hcond _ hL hsh _
 have hval : ∀ (j : Nat) t v, Tryz.f4.params[j]? = some t → args[j]? = some v → Value.okWide Tryz.prog W .any base t v := hval0
 have hW' := hW
 obtain ⟨p, q, hA0, hV, rfl, hfz, hnd⟩ := hW
 have hA : DataW.TrodAll enc Tryz.prog W 0 (fun _ => true) true Tryz.f4.params.toList args.toList ds p := hA0
 rw [Tryz.params4] at hA hval
 obtain ⟨v0, vs0, d0, ds0, p0, q0, ea0, rfl, rfl, h0, hA1⟩ := trodAll_cons hA
 obtain ⟨v1, vs1, d1, ds1, p1, q1, ea1, rfl, rfl, h1, hA2⟩ := trodAll_cons hA1
 obtain ⟨v2, vs2, d2, ds2, p2, q2, ea2, rfl, rfl, h2, hA3⟩ := trodAll_cons hA2
 obtain ⟨v3, vs3, d3, ds3, p3, q3, ea3, rfl, rfl, h3, hA4⟩ := trodAll_cons hA3
 obtain ⟨rfl, rfl, rfl⟩ := trodAll_nil hA4
 have eargs : args = #[v0, v1, v2, v3] := by
  apply Array.toList_inj.1
  rw [ea0, ea1, ea2, ea3]
 subst eargs
 clear ea0 ea1 ea2 ea3
 obtain ⟨rfl, rfl⟩ := trodVars_none hV
 obtain ⟨es, hS, hSR⟩ := stray_sent hL
 obtain ⟨m, hm⟩ := cell_of_shapedOpen_int (P := Tryz.prog) (g := 13) (t := 3) (zero := #[.int .i64 0]) hsh (of_decide_eq_true (by kernel_rfl)) (by kernel_rfl) rfl (by kernel_rfl) (by kernel_rfl) Tryz.underlying3
 have hk := hcond _ rfl
 have hbd : Rows.uptoBulk d0 + Rows.uptoBulk d1 + Rows.uptoBulk d2 + Rows.uptoBulk d3 ≤ 1048576 := by
  have h2 := of_decide_eq_true hk
  simp only [List.cons_append, List.nil_append, Rows.uptoBulkAll] at h2
  omega
 obtain ⟨pa, n, cap, g, rfl, hl, hn, hgb, hlt0⟩ := open_numsS (hval 0 22 v0 rfl rfl) h0
 obtain ⟨s1, rfl, rfl, rfl, w1⟩ := open_int Tryz.underlying3 (hval 1 3 v1 rfl rfl) h1
 obtain ⟨ap, an, acap, acts, rfl, hacts, hao, han, hlt2⟩ := open_acts (by omega) (hval 2 75 v2 rfl rfl) h2
 obtain ⟨lp, l, lcap, rfl, _, hfl, hfn, _, hlt3⟩ := open_texts (hval 3 30 v3 rfl rfl) h3
 clear hA0 hval0
 refine (stray_walk g pa n cap s1 acts ap an acap (fun i => l.getD i ByteArray.empty) lp l.length lcap W hl (by omega) hgb ⟨(bounds_i64 w1).1, (bounds_i64 w1).2⟩ hacts (by omega) hao hfl (by omega) (glob_ofN hS hm) hSR).mono fun e W' ⟨he, hb⟩ => ?_
 subst he
 have e1 : ((Rows.OpenSpec.upto Rows.straySpec).at F).fn H ([d0, .lit (.int .i64 s1), d2, d3] ++ []) = { results := [.lit (.bool true)], args := [d0, .lit (.int .i64 s1), d2, d3] } := rfl
 refine ⟨_, rfl, _, _, _, [], p0 ++ ([] ++ (p2 ++ (p3 ++ []))), [], hW', ?_, ?_, ?_, hb.frame _, fun h => by cases h⟩
 · rw [e1]; exact trodAll_mk1 (shut_bool Tryz.underlying4 true)
 · rw [e1]
   exact trodAll_cons_mk (Below.trod (by kernel_rfl) (by kernel_rfl) (of_decide_eq_true (by kernel_rfl)) h0 hb hlt0) (trodAll_cons_mk (Below.trod (by kernel_rfl) (by kernel_rfl) (of_decide_eq_true (by kernel_rfl)) h1 hb (fun x hx => by cases hx)) (trodAll_cons_mk (Below.trod (by kernel_rfl) (by kernel_rfl) (of_decide_eq_true (by kernel_rfl)) h2 hb hlt2) (trodAll_cons_mk (Below.trod (by kernel_rfl) (by kernel_rfl) (of_decide_eq_true (by kernel_rfl)) h3 hb hlt3) trodAll_mk0)))
 · rw [e1]; rfl

theorem stray_holds : Rows.StrayUptoSaid :=
 OpenClaim.holds_of_cond 4 Tryz.f4 rfl rfl rfl rfl rfl rfl rfl ⟨rfl, rfl, rfl, rfl, rfl⟩ rfl rfl rfl rfl rfl (by kernel_rfl) Tryz.func4 (by kernel_rfl)
  (of_decide_eq_true (by kernel_rfl)) (by unfold Func.isWrapper; first | (rw [if_pos (by decide +kernel)]; kernel_rfl) | (rw [if_neg (by decide +kernel)]; exact ⟨rfl, rfl⟩))
  (fun os started H enc _ F => by rw [OpenClaim.pre_eq_preRow]; exact stray_lifted os started H enc F)

theorem stray_plain (f : FuncId) (fn : Func) (hf : Tryz.pinned.checked.prog.funcNamed "synod/synodkeep.Stray" = some f) (hfn : Tryz.pinned.checked.prog.funcs[f]? = some fn) :
 true = Tryz.pinned.checked.prog.looks [] ∧ ∀ (j : Nat) t, fn.params[j]? = some t → Tryz.pinned.checked.prog.wantsStandIn t = false := by
 obtain rfl : f = 4 := Option.some.inj ((show Tryz.prog.funcNamed "synod/synodkeep.Stray" = some 4 by kernel_rfl).symm.trans hf) |>.symm
 obtain rfl : fn = Tryz.f4 := (Option.some.inj (Tryz.func4.symm.trans hfn)).symm
 refine ⟨by kernel_rfl, fun j t ht => ?_⟩
 rw [Tryz.params4] at ht
 have hm : t ∈ [22, 3, 75, 30] := by simpa using Array.mem_of_getElem? ht
 have hall : ([22, 3, 75, 30].all fun u => !Tryz.prog.wantsStandIn u) = true := by kernel_rfl
 exact (show Tryz.prog.wantsStandIn t = false by simpa using List.all_eq_true.1 hall t hm)

theorem stray_card : Rows.StrayUptoCardSaid :=
 Claim7.holds_tied_plain_at .later [] _ _ _ _ stray_holds (fun _ h => by cases h) (by kernel_rfl) (fun _ h => by cases h) strayUpto_row_tie rfl ⟨rfl, rfl⟩ (by kernel_rfl) rfl stray_plain (by kernel_rfl)

#print axioms stray_card
end Go.Proofs.YtcfjhbcpjpgodaaGreatDoor
