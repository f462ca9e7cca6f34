/- Proved here: what slices.Grow makes of nothing, and slices.Concat of two lists of texts. -/
import Derived.Test.YtcfjhbcpjpgodaaGreatDoorJ16
import Derived.Lib.AppendZeros
namespace Go.Proofs.YtcfjhbcpjpgodaaGreatDoor
open Go.RowKit

theorem Tryz.infoStringL : (Tryz.prog.info? 9).map (fun i => (i.zero, i.size, i.bytes)) = some (some (.string ByteArray.empty), 1, 16) := by kernel_rfl

set_option maxRecDepth 100000 in
theorem grow_nil (n : Nat) (w : World) (hn : n ≤ 1000000000) :
    Calls Tryz.prog 138 #[.slice none 0 0, .int .i64 (n : Int)] w fun e w' => ∃ v, e = .returned v ∧ w'.ownsRow w.heap.size 9 1 v 0 [] ∧ Below w.heap.size w w' := by
  obtain ⟨i9, hi9, hz0, hz1, hz2⟩ := info_parts Tryz.infoStringL
  have h0 : ¬ (n : Int) < 0 := by omega
  have h1 : (n : Int) ≤ 9223372036854775807 := by omega
  by_cases hp : n = 0
  · subst hp
    go_enter Tryz.func138, Tryz.ntmps138
    go_wp2
    go_ret
    exact ⟨_, rfl, World.ownsRow_nil _ _ _ _, Below.refl _ _⟩
  · have hpos : 0 < (n : Int) := by omega
    have HP := hide hp
    have HN := hide hn
    clear hp
    go_enter Tryz.func138, Tryz.ntmps138
    go_wp2_with (at_builtin; refine Lib.wpList_append_run _ rfl _ _ _ _ rfl _ _ rfl rfl _ _ (Lib.run_append_nil_zeros _ 30 3 _ 9 i9 (.string ByteArray.empty) .i64 .i64 Tryz.underlying30 Tryz.underlying3 hi9 hz0 n (by have := HP.out; omega) (by rw [hz1]; decide) h1 (by rw [hz2]; have := HN.out; omega)) ?_)
    go_ret
    refine ⟨_, rfl, ⟨rfl, Or.inr ⟨w.heap.size, grownCap w n 0 9, _, rfl, Nat.le_refl _, heap_alloc_new w.drew _, Nat.zero_le _, grownCap_le_maxLen w n 0 _ (by have := HN.out; unfold maxLen; omega), ?_, by simp⟩⟩, ((Below.refl _ w).drew).alloc (Nat.le_refl _) _⟩
    rw [Array.size_append, size_zeroCells, size_zeroCells]
    have := grownCap_ge w n 0 9
    simp
    omega

/-- Two lists of texts, one behind the other. -/
def glue (fa : Nat → ByteArray) (m : Nat) (fb : Nat → ByteArray) : Nat → ByteArray := fun i => if i < m then fa i else fb (i - m)
def textL (f : Nat → ByteArray) (n : Nat) : List Value := (List.range n).map fun i => .string (f i)
theorem glue_list (fa fb : Nat → ByteArray) (ma mb : Nat) : textL fa ma ++ textL fb mb = textL (glue fa ma fb) (ma + mb) := by
  unfold textL
  rw [List.range_add, List.map_append, List.map_map]
  congr 1
  · apply List.map_congr_left
    intro i hi
    have : i < ma := by simpa using hi
    simp [glue, this]
  · apply List.map_congr_left
    intro i hi
    have : ¬ ma + i < ma := by omega
    simp [glue, this]

set_option maxRecDepth 100000 in
set_option maxHeartbeats 1600000 in
theorem concat_any (fa fb : Nat → ByteArray) (pa pb : Option Addr) (ma mb ca cb g : Nat) (w : World) (h0 : w.cell? ⟨g, 0, none⟩ = some (.slice pa ma ca)) (h1 : w.cell? ⟨g, 1, none⟩ = some (.slice pb mb cb)) (hpa : NilOr pa ma ca) (hpb : NilOr pb mb cb)
    (hla : Lies w w.heap.size pa ma (fun i => .string (fa i))) (hlb : Lies w w.heap.size pb mb (fun i => .string (fb i))) (hm : ma + mb ≤ 1000000000) :
    Calls Tryz.prog 100 #[.slice (some ⟨g, 0, none⟩) 2 2] w fun e w' => ∃ v, e = .returned v ∧ w'.ownsRow w.heap.size 9 1 v (ma + mb) (textL (glue fa ma fb) (ma + mb)) ∧ Below w.heap.size w w' := by
  obtain ⟨i9, hi9, hz0, hz1, hz2⟩ := info_parts Tryz.infoStringL
  have HPA := hide hpa
  have HPB := hide hpb
  have HLA := hide hla
  have HLB := hide hlb
  have HM := hide hm
  have hgl : g < w.heap.size := World.block_lt_of_cell? _ _ h0
  have k1 : ¬ (ma : Int) < 0 := by omega
  have k2 : ¬ (ma : Int) + (mb : Int) < 0 := by omega
  have k3 : (ma : Int) + (mb : Int) ≤ 9223372036854775807 := by omega
  have k4 : (ma : Int) ≤ 9223372036854775807 := by omega
  clear hpa hpb hla hlb hm
  have HG : Hid (Calls Tryz.prog 138 #[.slice none 0 0, .int .i64 ((ma : Int) + (mb : Int))] w fun e w' => ∃ v, e = .returned v ∧ w'.ownsRow w.heap.size 9 1 v 0 [] ∧ Below w.heap.size w w') := by
    have h := grow_nil (ma + mb) w HM.out
    have e : (((ma + mb : Nat) : Nat) : Int) = (ma : Int) + (mb : Int) := by omega
    rw [e] at h
    exact h
  go_enter Tryz.func100, Tryz.ntmps100
  go_wp2
  refine wp_loop_rounds 3 ?_
  rw [rounds_succ]
  go_wp2
  rw [rounds_succ]
  go_wp2
  rw [rounds_succ]
  go_wp2_with fail
  refine HG.out.mono ?_
  rintro e w1 ⟨v, rfl, ho, hb⟩
  have q0 : w1.cell? ⟨g, 0, none⟩ = some (.slice pa ma ca) := (hb.cell (p := ⟨g, 0, none⟩) (by exact hgl)).trans h0
  have q1 : w1.cell? ⟨g, 1, none⟩ = some (.slice pb mb cb) := (hb.cell (p := ⟨g, 1, none⟩) (by exact hgl)).trans h1
  have HO := hide ho
  have HB := hide hb
  clear ho hb HG h0 h1
  go_wp2
  refine wp_loop_rounds 3 ?_
  rw [rounds_succ]
  go_wp2_with (at_builtin; refine wpList_append_texts _ rfl _ _ 30 rfl w.heap.size 9 i9 (.string ByteArray.empty) 16 Tryz.underlying30 hi9 hz0 hz1 hz2 rfl v 0 [] rfl HO.out pa ma ca fa rfl HPA.out ((HLA.out.below HB.out).more HB.out.size) (by have := HM.out; unfold maxLen; omega) (by have := HM.out; omega) HB.out.size ?_; intro v2 w2 hown2 hgrow2 hat2)
  have HB2 : Hid (Below w.heap.size w w2) := HB.out.grown hgrow2 HB.out.size (fun k hk => (HO.out.lt k hk).1)
  have HO2 := hide hown2
  have hq1 : w2.cell? ⟨g, 1, none⟩ = some (.slice pb mb cb) := hgrow2.cell q1 (fun e => by have := (HO.out.lt g e.symm).1; omega)
  clear hown2 hgrow2 hat2 q0 q1
  rw [rounds_succ]
  go_wp2_with (at_builtin; refine wpList_append_texts _ rfl _ _ 30 rfl w.heap.size 9 i9 (.string ByteArray.empty) 16 Tryz.underlying30 hi9 hz0 hz1 hz2 rfl v2 (0 + ma) _ rfl HO2.out pb mb cb fb rfl HPB.out ((HLB.out.below HB2.out).more HB2.out.size) (by have := HM.out; unfold maxLen; omega) (by have := HM.out; omega) HB2.out.size ?_; intro v3 w3 hown3 hgrow3 hat3)
  have HB3 : Hid (Below w.heap.size w w3) := HB2.out.grown hgrow3 HB2.out.size (fun k hk => (HO2.out.lt k hk).1)
  have HO3 := hide hown3
  clear hown3 hgrow3 hat3
  rw [rounds_succ]
  go_wp2
  go_ret
  refine ⟨v3, rfl, ?_, HB3.out⟩
  have h := HO3.out
  rw [List.nil_append, Nat.zero_add] at h
  rw [← glue_list]
  exact h

end Go.Proofs.YtcfjhbcpjpgodaaGreatDoor
