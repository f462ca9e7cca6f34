/- Proved here: what the rules of answering a proposal come to. -/
import Derived.Test.YtcfjhbcpjpgodaaGreatDoorJ24
import Derived.Test.YtcfjhbcpjpgodaaGreatDoorTakeL
namespace Go.Proofs.YtcfjhbcpjpgodaaGreatDoor
open Go.RowKit

def NodeS.mayS (s : NodeS) (p : EntV) : Bool := s.good p.m.s && (decide (s.lr ≤ p.m.v) || decide (s.lv = p.m.s))
def NodeS.answerS (s : NodeS) (i : Nat) (fits : EntV → Bool) : Bool × NodeS :=
 if s.step = 1 then (match propF s.log (s.round : Int) fits with | none => (false, s) | some p => (true, if s.mayS p = true then (s.sendS i 2 0 false p.m.s).atStep 2 else s.nothing i 2 2)) else (false, s)
theorem answerS_step {s : NodeS} {i : Nat} {fits : EntV → Bool} (h : ¬ s.step = 1) : s.answerS i fits = (false, s) := by unfold NodeS.answerS; rw [if_neg h]
theorem answerS_none {s : NodeS} {i : Nat} {fits : EntV → Bool} (h : s.step = 1) (hp : propF s.log (s.round : Int) fits = none) : s.answerS i fits = (false, s) := by unfold NodeS.answerS; rw [if_pos h, hp]
theorem answerS_yes {s : NodeS} {i : Nat} {fits : EntV → Bool} {p : EntV} (h : s.step = 1) (hp : propF s.log (s.round : Int) fits = some p) (hm : s.mayS p = true) : s.answerS i fits = (true, (s.sendS i 2 0 false p.m.s).atStep 2) := by unfold NodeS.answerS; rw [if_pos h, hp]; simp only; rw [if_pos hm]
theorem answerS_no {s : NodeS} {i : Nat} {fits : EntV → Bool} {p : EntV} (h : s.step = 1) (hp : propF s.log (s.round : Int) fits = some p) (hm : s.mayS p = false) : s.answerS i fits = (true, s.nothing i 2 2) := by unfold NodeS.answerS; rw [if_pos h, hp]; simp only; rw [if_neg (by rw [hm]; exact Bool.false_ne_true)]

set_option linter.unusedSimpArgs false in
set_option linter.unusedVariables false in
set_option maxRecDepth 100000 in
set_option maxHeartbeats 6400000 in
theorem answer_step {B : Nat} {es : List Addr} {m : Int} {F R : Nat → Prop} {nb kb rb cb n i N : Nat} {s : NodeS} {w : World} (g : Nat) (lb : Array Value) (fits : EntV → Bool) (h : NodeW B es m F R nb kb rb cb n i s w) (ok : StOk N s) (hN : N ≤ 10000000) (hsg : (s.sg i).length ≤ 1000000000000) (eg : EntersP g) (hfit : ∀ W, Below w.heap.size w W → FitsAt g lb fits (s.log.filter fun e => decide (e.m.k = 1) && decide (e.m.r = (s.round : Int))) W) (hst : ¬ s.step = 1) :
 Calls Tryz.prog 156 #[.pointer (some ⟨nb, 0, none⟩), .func (.func g) #[] lb] w (RuleP B es m F R nb kb rb cb n i (s.answerS i fits) w) := by
 have HAN := hide (answerS_step (i := i) (fits := fits) hst)
 obtain ⟨V, hA, hf⟩ := h.node
 obtain ⟨p, c, -, c37, hm, hE⟩ := hA.logAt
 obtain ⟨a1, he1⟩ := h.glob.sent.at 1 (by omega)
 obtain ⟨a11, he11⟩ := h.glob.sent.at 11 (by omega)
 have c44 : w.cell? ⟨nb, 44, none⟩ = some (.int .i64 (s.step : Int)) := hA.cell 44 rfl
 have C43 : Hid (w.cell? ⟨nb, 43, none⟩ = some (.int .i64 (s.round : Int))) := hA.cell 43 rfl
 have C37 := hide c37
 have HH := hide h
 have HA := hide hA
 have HOK := hide ok
 have HSG := hide hsg
 have HE1 := hide he1
 have HE11 := hide he11
 have HPROP : Hid (∀ W, Below w.heap.size w W → Calls Tryz.prog 148 #[.slice p s.log.length c, .int .i64 (s.round : Int), .func (.func g) #[] lb] W fun e w' => e = .returned (propR (propF s.log (s.round : Int) fits)) ∧ Below W.heap.size W w') := fun W hW => proposal_any g lb fits s.log (s.round : Int) p c W eg (hE.ext (Ext.of hW)) hm (hfit W hW)
 have HPROPB := HPROP
 have q44 : ((s.step : Int) == 1) = false := by rw [beq_eq_false_iff_ne]; omega
 have q44' : ¬ (s.step : Int) = 1 := by omega
 clear h hA hf ok hsg he1 he11 hfit eg hE hm c37
 clear hst
 go_enter Tryz.func156, Tryz.ntmps156
 go_wp2
 go_ret
 exact ⟨by rw [HAN.out]; rfl, F, R, by rw [HAN.out]; exact HH.out, Goes.refl F R w⟩

set_option linter.unusedSimpArgs false in
set_option linter.unusedVariables false in
set_option maxRecDepth 100000 in
set_option maxHeartbeats 6400000 in
theorem answer_none {B : Nat} {es : List Addr} {m : Int} {F R : Nat → Prop} {nb kb rb cb n i N : Nat} {s : NodeS} {w : World} (g : Nat) (lb : Array Value) (fits : EntV → Bool) (h : NodeW B es m F R nb kb rb cb n i s w) (ok : StOk N s) (hN : N ≤ 10000000) (hsg : (s.sg i).length ≤ 1000000000000) (eg : EntersP g) (hfit : ∀ W, Below w.heap.size w W → FitsAt g lb fits (s.log.filter fun e => decide (e.m.k = 1) && decide (e.m.r = (s.round : Int))) W) (hst : s.step = 1) (hpf : propF s.log (s.round : Int) fits = none) :
 Calls Tryz.prog 156 #[.pointer (some ⟨nb, 0, none⟩), .func (.func g) #[] lb] w (RuleP B es m F R nb kb rb cb n i (s.answerS i fits) w) := by
 have HAN := hide (answerS_none (i := i) hst hpf)
 obtain ⟨V, hA, hf⟩ := h.node
 obtain ⟨p, c, -, c37, hm, hE⟩ := hA.logAt
 obtain ⟨a1, he1⟩ := h.glob.sent.at 1 (by omega)
 obtain ⟨a11, he11⟩ := h.glob.sent.at 11 (by omega)
 have c44 : w.cell? ⟨nb, 44, none⟩ = some (.int .i64 (s.step : Int)) := hA.cell 44 rfl
 have C43 : Hid (w.cell? ⟨nb, 43, none⟩ = some (.int .i64 (s.round : Int))) := hA.cell 43 rfl
 have C37 := hide c37
 have HH := hide h
 have HA := hide hA
 have HOK := hide ok
 have HSG := hide hsg
 have HE1 := hide he1
 have HE11 := hide he11
 have HPROP : Hid (∀ W, Below w.heap.size w W → Calls Tryz.prog 148 #[.slice p s.log.length c, .int .i64 (s.round : Int), .func (.func g) #[] lb] W fun e w' => e = .returned (propR (propF s.log (s.round : Int) fits)) ∧ Below W.heap.size W w') := fun W hW => proposal_any g lb fits s.log (s.round : Int) p c W eg (hE.ext (Ext.of hW)) hm (hfit W hW)
 have HPROPB := HPROP
 rw [hpf] at HPROP HPROPB
 obtain ⟨x, hxe⟩ : ∃ x : Option EntV, x = none := ⟨none, rfl⟩
 rw [← hxe] at HPROP HPROPB
 have hsm : x.isSome = false := by rw [hxe]; rfl
 have q44 : (s.step : Int) = 1 := by omega
 clear h hA hf ok hsg he1 he11 hfit eg hE hm c37
 clear hst hpf hxe
 go_enter Tryz.func156, Tryz.ntmps156
 go_wp2_with fail
 refine wp_region_held_drew (S := fun X => Below w.heap.size w X) (by kernel_rfl) ((Below.refl _ w).drew) (fun hHeld => ?_)
 refine takeN [(0, some 14, pA nb 0), (1, some 15, pA nb 0), (2, some 16, pA nb 37), (3, some 17, .slice p s.log.length c), (4, some 18, pA nb 0), (5, some 19, pA nb 0), (6, some 20, pA nb 43), (7, some 21, pA nb 43), (8, some 22, .int .i64 (s.round : Int)), (9, some 23, .func (.func g) #[] lb)] _ _ hHeld (by repeat (first | exact True.intro | (refine tkc rfl rfl (Or.inl ⟨by rfl, fun x h => by have f0 : x.cell? ⟨nb, 37, none⟩ = some (.slice p s.log.length c) := Ext.cell C37.out (Ext.of h); have f1 : x.cell? ⟨nb, 43, none⟩ = some (.int .i64 (s.round : Int)) := Ext.cell C43.out (Ext.of h); go_simp⟩) ?_; simp only [AP]))) ?_
 simp only [takesA, AP, pA]
 refine wpAnyH_ready (rs := [10, 14]) (by kernel_rfl) (by simp) ?_
 refine AllReadyH.cons rfl (fun K hK => ?_) (AllReadyH.cons rfl (fun K hK => ?_) AllReadyH.nil)
 focus
  go_simp
  refine (HPROP.out _ (by first | exact hHeld | exact (Below.refl _ w).drew)).mono ?_
  rintro en X2 ⟨rfl, hb2⟩
  have hX2 : Below w.heap.size w X2 := (Below.refl _ w).drew.trans (hb2.mono (Nat.le_refl _))
  clear hb2
  refine hK.out _ _ hX2 (fun hHeld => ?_)
  clear hK K
  try simp only [AP, AQ]
  refine takeN [(11, some 13, propR x), (12, some 25, .agg (x.getD ent0).cells), (13, some 26, .bool false)] _ _ hHeld (by repeat (first | exact True.intro | ((first | (refine tkc rfl rfl (Or.inl ⟨by rfl, fun x h => ?_⟩) ?_; focus (unfold propR; go_simp; done)) | (refine tkc rfl rfl (Or.inl ⟨by rfl, fun x h => ?_⟩) ?_; focus (go_simp; done))); simp only [AP]))) ?_
  simp only [takesA, AP]
  refine rdy1 14 (fun K hK => ?_)
  go_simp
  obtain ⟨X3, hX3e⟩ : ∃ z, z = X2.alloc (.cells #[.int .i64 0, .int .i64 0, .int .i64 0, .int .i64 0, .int .i64 0, .bool false, .string ⟨#[]⟩, .string ⟨#[]⟩, .bool false] 164) := ⟨_, rfl⟩
  have hb3 : Below X2.heap.size X2 X3 := by rw [hX3e]; exact (Below.refl _ X2).alloc (Nat.le_refl _) _
  have hq3 : X3.heap[X2.heap.size]? = some (.cells #[.int .i64 0, .int .i64 0, .int .i64 0, .int .i64 0, .int .i64 0, .bool false, .string ⟨#[]⟩, .string ⟨#[]⟩, .bool false] 164 (0, 0)) := by rw [hX3e]; exact heap_alloc_new X2 _
  rw [← hX3e]
  have hX3 : Below w.heap.size w X3 := hX2.trans (hb3.mono hX2.size)
  refine hK.out _ _ hX3 (fun hHeld => ?_)
  clear hK K hX3e
  try simp only [AP, AQ]
  refine rdy1 15 (fun K hK => ?_)
  rw [if_pos (by rfl)]
  refine wp_store_midG 164 _ _ rfl X2.heap.size 0 ((x.getD ent0).cells) rfl rfl 164 #[.int .i64 0, .int .i64 0, .int .i64 0, .int .i64 0, .int .i64 0, .bool false, .string ⟨#[]⟩, .string ⟨#[]⟩, .bool false] hq3 (by simp [EntV.cells]) (by simp [EntV.cells, Value.oneCell']) (by rw [Tryz.sizeEnt]; simp [EntV.cells]) ?_
  intro X hqX hoX
  have hqX2 : X.heap[X2.heap.size]? = some (.cells ((x.getD ent0).cells) 164 (0, 0)) := hqX
  have hX : Below w.heap.size w X := hX3.trans (hoX.below hX2.size)
  refine hK.out _ _ hX (fun hHeld => ?_)
  clear hK K
  try simp only [AP, AQ]
  refine takeM [(16, some 6, .bool false)] _ _ hHeld ?_
  simp only [takesA, AP]
  refine wpAnyH_done (by kernel_rfl) ?_ _
  obtain ⟨pb, hpb⟩ : ∃ z, z = X2.heap.size := ⟨_, rfl⟩
  rw [← hpb] at hqX2
  rw [← hpb]
  have hpw : w.heap.size ≤ pb := by rw [hpb]; exact hX2.size
  clear hpb hqX hoX hb3 hq3 hX3 hX2
 rotate_left
 focus
  go_simp
  obtain ⟨X3, hX3e⟩ : ∃ z, z = (w.alloc (.cells #[.int .i64 0, .int .i64 0, .int .i64 0, .int .i64 0, .int .i64 0, .bool false, .string ⟨#[]⟩, .string ⟨#[]⟩, .bool false] 164)).drew := ⟨_, rfl⟩
  have hX3 : Below w.heap.size w X3 := by rw [hX3e]; exact ((Below.refl _ w).alloc (Nat.le_refl _) _).drew
  have hq3 : X3.heap[w.heap.size]? = some (.cells #[.int .i64 0, .int .i64 0, .int .i64 0, .int .i64 0, .int .i64 0, .bool false, .string ⟨#[]⟩, .string ⟨#[]⟩, .bool false] 164 (0, 0)) := by rw [hX3e]; exact heap_alloc_new w _
  rw [← hX3e]
  refine hK.out _ _ hX3 (fun hHeld => ?_)
  clear hK K hX3e
  try simp only [AP, AQ]
  refine rdy1 10 (fun K hK => ?_)
  go_simp
  refine (HPROPB.out _ (by first | exact hHeld | exact (Below.refl _ w).drew)).mono ?_
  rintro en X2 ⟨rfl, hb2⟩
  have hX2 : Below w.heap.size w X2 := hX3.trans (hb2.mono hX3.size)
  have hq2 := blk hq3 hb2
  refine hK.out _ _ hX2 (fun hHeld => ?_)
  clear hK K
  try simp only [AP, AQ]
  refine takeN [(11, some 13, propR x), (12, some 25, .agg (x.getD ent0).cells), (13, some 26, .bool false)] _ _ hHeld (by repeat (first | exact True.intro | ((first | (refine tkc rfl rfl (Or.inl ⟨by rfl, fun x h => ?_⟩) ?_; focus (unfold propR; go_simp; done)) | (refine tkc rfl rfl (Or.inl ⟨by rfl, fun x h => ?_⟩) ?_; focus (go_simp; done))); simp only [AP]))) ?_
  simp only [takesA, AP]
  refine rdy1 15 (fun K hK => ?_)
  rw [if_pos (by rfl)]
  refine wp_store_midG 164 _ _ rfl w.heap.size 0 ((x.getD ent0).cells) rfl rfl 164 #[.int .i64 0, .int .i64 0, .int .i64 0, .int .i64 0, .int .i64 0, .bool false, .string ⟨#[]⟩, .string ⟨#[]⟩, .bool false] hq2 (by simp [EntV.cells]) (by simp [EntV.cells, Value.oneCell']) (by rw [Tryz.sizeEnt]; simp [EntV.cells]) ?_
  intro X hqX hoX
  have hqX2 : X.heap[w.heap.size]? = some (.cells ((x.getD ent0).cells) 164 (0, 0)) := hqX
  have hX : Below w.heap.size w X := hX2.trans (hoX.below (Nat.le_refl _))
  refine hK.out _ _ hX (fun hHeld => ?_)
  clear hK K
  try simp only [AP, AQ]
  refine takeM [(16, some 6, .bool false)] _ _ hHeld ?_
  simp only [takesA, AP]
  refine wpAnyH_done (by kernel_rfl) ?_ _
  obtain ⟨pb, hpb⟩ : ∃ z, z = w.heap.size := ⟨_, rfl⟩
  rw [← hpb] at hqX2
  rw [← hpb]
  have hpw : w.heap.size ≤ pb := by rw [hpb]; exact Nat.le_refl _
  clear hpb hqX hoX hb2 hq2 hq3 hX3 hX2
 rotate_left
 all_goals
  have HXB := hide hX
  clear hX hqX2 hpw
  go_wp2
  go_ret
  exact ⟨by rw [HAN.out]; rfl, F, R, by rw [HAN.out]; exact HH.out.below HXB.out, Goes.below HXB.out⟩

set_option linter.unusedSimpArgs false in
set_option linter.unusedVariables false in
set_option maxRecDepth 100000 in
set_option maxHeartbeats 6400000 in
theorem answer_bad {B : Nat} {es : List Addr} {m : Int} {F R : Nat → Prop} {nb kb rb cb n i N : Nat} {s : NodeS} {w : World} (g : Nat) (lb : Array Value) (fits : EntV → Bool) (h : NodeW B es m F R nb kb rb cb n i s w) (ok : StOk N s) (hN : N ≤ 10000000) (hsg : (s.sg i).length ≤ 1000000000000) (eg : EntersP g) (hfit : ∀ W, Below w.heap.size w W → FitsAt g lb fits (s.log.filter fun e => decide (e.m.k = 1) && decide (e.m.r = (s.round : Int))) W) (pk ph pr pf pvv : Int) (pnl : Bool) (pt pfr : ByteArray) (po : Bool) (hst : s.step = 1) (hpf : propF s.log (s.round : Int) fits = some ⟨⟨pk, ph, pr, pf, pvv, pnl, pt⟩, pfr, po⟩) (hz : pt.size ≤ 24) (hgd : (behindR s.x pt).2 = false) :
 Calls Tryz.prog 156 #[.pointer (some ⟨nb, 0, none⟩), .func (.func g) #[] lb] w (RuleP B es m F R nb kb rb cb n i (s.answerS i fits) w) := by
 have HAN := hide (answerS_no (i := i) hst hpf (by unfold NodeS.mayS NodeS.good; simp only [hgd, Bool.false_and]))
 obtain ⟨V, hA, hf⟩ := h.node
 obtain ⟨p, c, -, c37, hm, hE⟩ := hA.logAt
 obtain ⟨a1, he1⟩ := h.glob.sent.at 1 (by omega)
 obtain ⟨a11, he11⟩ := h.glob.sent.at 11 (by omega)
 have c44 : w.cell? ⟨nb, 44, none⟩ = some (.int .i64 (s.step : Int)) := hA.cell 44 rfl
 have C43 : Hid (w.cell? ⟨nb, 43, none⟩ = some (.int .i64 (s.round : Int))) := hA.cell 43 rfl
 have C37 := hide c37
 have HH := hide h
 have HA := hide hA
 have HOK := hide ok
 have HSG := hide hsg
 have HE1 := hide he1
 have HE11 := hide he11
 have HPROP : Hid (∀ W, Below w.heap.size w W → Calls Tryz.prog 148 #[.slice p s.log.length c, .int .i64 (s.round : Int), .func (.func g) #[] lb] W fun e w' => e = .returned (propR (propF s.log (s.round : Int) fits)) ∧ Below W.heap.size W w') := fun W hW => proposal_any g lb fits s.log (s.round : Int) p c W eg (hE.ext (Ext.of hW)) hm (hfit W hW)
 have HPROPB := HPROP
 rw [hpf] at HPROP HPROPB
 obtain ⟨x, hxe⟩ : ∃ x : Option EntV, x = some ⟨⟨pk, ph, pr, pf, pvv, pnl, pt⟩, pfr, po⟩ := ⟨_, rfl⟩
 rw [← hxe] at HPROP HPROPB
 have hsm : x.isSome = true := by rw [hxe]; rfl
 have HXE := hide hxe
 have q44 : (s.step : Int) = 1 := by omega
 clear h hA hf ok hsg he1 he11 hfit eg hE hm c37
 clear hst hpf hxe
 go_enter Tryz.func156, Tryz.ntmps156
 go_wp2_with fail
 refine wp_region_held_drew (S := fun X => Below w.heap.size w X) (by kernel_rfl) ((Below.refl _ w).drew) (fun hHeld => ?_)
 refine takeN [(0, some 14, pA nb 0), (1, some 15, pA nb 0), (2, some 16, pA nb 37), (3, some 17, .slice p s.log.length c), (4, some 18, pA nb 0), (5, some 19, pA nb 0), (6, some 20, pA nb 43), (7, some 21, pA nb 43), (8, some 22, .int .i64 (s.round : Int)), (9, some 23, .func (.func g) #[] lb)] _ _ hHeld (by repeat (first | exact True.intro | (refine tkc rfl rfl (Or.inl ⟨by rfl, fun x h => by have f0 : x.cell? ⟨nb, 37, none⟩ = some (.slice p s.log.length c) := Ext.cell C37.out (Ext.of h); have f1 : x.cell? ⟨nb, 43, none⟩ = some (.int .i64 (s.round : Int)) := Ext.cell C43.out (Ext.of h); go_simp⟩) ?_; simp only [AP]))) ?_
 simp only [takesA, AP, pA]
 refine wpAnyH_ready (rs := [10, 14]) (by kernel_rfl) (by simp) ?_
 refine AllReadyH.cons rfl (fun K hK => ?_) (AllReadyH.cons rfl (fun K hK => ?_) AllReadyH.nil)
 focus
  go_simp
  refine (HPROP.out _ (by first | exact hHeld | exact (Below.refl _ w).drew)).mono ?_
  rintro en X2 ⟨rfl, hb2⟩
  have hX2 : Below w.heap.size w X2 := (Below.refl _ w).drew.trans (hb2.mono (Nat.le_refl _))
  clear hb2
  refine hK.out _ _ hX2 (fun hHeld => ?_)
  clear hK K
  try simp only [AP, AQ]
  refine takeN [(11, some 13, propR x), (12, some 25, .agg (x.getD ent0).cells), (13, some 26, .bool true)] _ _ hHeld (by repeat (first | exact True.intro | ((first | (refine tkc rfl rfl (Or.inl ⟨by rfl, fun x h => ?_⟩) ?_; focus (unfold propR; go_simp; done)) | (refine tkc rfl rfl (Or.inl ⟨by rfl, fun x h => ?_⟩) ?_; focus (go_simp; done))); simp only [AP]))) ?_
  simp only [takesA, AP]
  refine rdy1 14 (fun K hK => ?_)
  go_simp
  obtain ⟨X3, hX3e⟩ : ∃ z, z = X2.alloc (.cells #[.int .i64 0, .int .i64 0, .int .i64 0, .int .i64 0, .int .i64 0, .bool false, .string ⟨#[]⟩, .string ⟨#[]⟩, .bool false] 164) := ⟨_, rfl⟩
  have hb3 : Below X2.heap.size X2 X3 := by rw [hX3e]; exact (Below.refl _ X2).alloc (Nat.le_refl _) _
  have hq3 : X3.heap[X2.heap.size]? = some (.cells #[.int .i64 0, .int .i64 0, .int .i64 0, .int .i64 0, .int .i64 0, .bool false, .string ⟨#[]⟩, .string ⟨#[]⟩, .bool false] 164 (0, 0)) := by rw [hX3e]; exact heap_alloc_new X2 _
  rw [← hX3e]
  have hX3 : Below w.heap.size w X3 := hX2.trans (hb3.mono hX2.size)
  refine hK.out _ _ hX3 (fun hHeld => ?_)
  clear hK K hX3e
  try simp only [AP, AQ]
  refine rdy1 15 (fun K hK => ?_)
  rw [if_pos (by rfl)]
  refine wp_store_midG 164 _ _ rfl X2.heap.size 0 ((x.getD ent0).cells) rfl rfl 164 #[.int .i64 0, .int .i64 0, .int .i64 0, .int .i64 0, .int .i64 0, .bool false, .string ⟨#[]⟩, .string ⟨#[]⟩, .bool false] hq3 (by simp [EntV.cells]) (by simp [EntV.cells, Value.oneCell']) (by rw [Tryz.sizeEnt]; simp [EntV.cells]) ?_
  intro X hqX hoX
  have hqX2 : X.heap[X2.heap.size]? = some (.cells ((x.getD ent0).cells) 164 (0, 0)) := hqX
  have hX : Below w.heap.size w X := hX3.trans (hoX.below hX2.size)
  refine hK.out _ _ hX (fun hHeld => ?_)
  clear hK K
  try simp only [AP, AQ]
  refine takeM [(16, some 6, .bool true)] _ _ hHeld ?_
  simp only [takesA, AP]
  refine wpAnyH_done (by kernel_rfl) ?_ _
  obtain ⟨pb, hpb⟩ : ∃ z, z = X2.heap.size := ⟨_, rfl⟩
  rw [← hpb] at hqX2
  rw [← hpb]
  have hpw : w.heap.size ≤ pb := by rw [hpb]; exact hX2.size
  clear hpb hqX hoX hb3 hq3 hX3 hX2
 rotate_left
 focus
  go_simp
  obtain ⟨X3, hX3e⟩ : ∃ z, z = (w.alloc (.cells #[.int .i64 0, .int .i64 0, .int .i64 0, .int .i64 0, .int .i64 0, .bool false, .string ⟨#[]⟩, .string ⟨#[]⟩, .bool false] 164)).drew := ⟨_, rfl⟩
  have hX3 : Below w.heap.size w X3 := by rw [hX3e]; exact ((Below.refl _ w).alloc (Nat.le_refl _) _).drew
  have hq3 : X3.heap[w.heap.size]? = some (.cells #[.int .i64 0, .int .i64 0, .int .i64 0, .int .i64 0, .int .i64 0, .bool false, .string ⟨#[]⟩, .string ⟨#[]⟩, .bool false] 164 (0, 0)) := by rw [hX3e]; exact heap_alloc_new w _
  rw [← hX3e]
  refine hK.out _ _ hX3 (fun hHeld => ?_)
  clear hK K hX3e
  try simp only [AP, AQ]
  refine rdy1 10 (fun K hK => ?_)
  go_simp
  refine (HPROPB.out _ (by first | exact hHeld | exact (Below.refl _ w).drew)).mono ?_
  rintro en X2 ⟨rfl, hb2⟩
  have hX2 : Below w.heap.size w X2 := hX3.trans (hb2.mono hX3.size)
  have hq2 := blk hq3 hb2
  refine hK.out _ _ hX2 (fun hHeld => ?_)
  clear hK K
  try simp only [AP, AQ]
  refine takeN [(11, some 13, propR x), (12, some 25, .agg (x.getD ent0).cells), (13, some 26, .bool true)] _ _ hHeld (by repeat (first | exact True.intro | ((first | (refine tkc rfl rfl (Or.inl ⟨by rfl, fun x h => ?_⟩) ?_; focus (unfold propR; go_simp; done)) | (refine tkc rfl rfl (Or.inl ⟨by rfl, fun x h => ?_⟩) ?_; focus (go_simp; done))); simp only [AP]))) ?_
  simp only [takesA, AP]
  refine rdy1 15 (fun K hK => ?_)
  rw [if_pos (by rfl)]
  refine wp_store_midG 164 _ _ rfl w.heap.size 0 ((x.getD ent0).cells) rfl rfl 164 #[.int .i64 0, .int .i64 0, .int .i64 0, .int .i64 0, .int .i64 0, .bool false, .string ⟨#[]⟩, .string ⟨#[]⟩, .bool false] hq2 (by simp [EntV.cells]) (by simp [EntV.cells, Value.oneCell']) (by rw [Tryz.sizeEnt]; simp [EntV.cells]) ?_
  intro X hqX hoX
  have hqX2 : X.heap[w.heap.size]? = some (.cells ((x.getD ent0).cells) 164 (0, 0)) := hqX
  have hX : Below w.heap.size w X := hX2.trans (hoX.below (Nat.le_refl _))
  refine hK.out _ _ hX (fun hHeld => ?_)
  clear hK K
  try simp only [AP, AQ]
  refine takeM [(16, some 6, .bool true)] _ _ hHeld ?_
  simp only [takesA, AP]
  refine wpAnyH_done (by kernel_rfl) ?_ _
  obtain ⟨pb, hpb⟩ : ∃ z, z = w.heap.size := ⟨_, rfl⟩
  rw [← hpb] at hqX2
  rw [← hpb]
  have hpw : w.heap.size ≤ pb := by rw [hpb]; exact Nat.le_refl _
  clear hpb hqX hoX hb2 hq2 hq3 hX3 hX2
 rotate_left
 all_goals
  rw [HXE.out] at hqX2
  have HXB := hide hX
  have e4 : X.cell? ⟨pb, 4, none⟩ = some (.int .i64 pvv) := cell_of_row X pb 4 _ _ _ hqX2
  have e6 : X.cell? ⟨pb, 6, none⟩ = some (.string pt) := cell_of_row X pb 6 _ _ _ hqX2
  have hAX := HA.out.below hX
  have HRX := hide hAX.reg
  have HWX := hide (HH.out.below hX)
  have e39 : X.cell? ⟨nb, 39, none⟩ = some (.int .i64 s.lr) := hAX.cell 39 rfl
  have e40 : X.cell? ⟨nb, 40, none⟩ = some (.string s.lv) := hAX.cell 40 rfl
  have d4 : ∀ u : Ext X, u.W.cell? ⟨pb, 4, none⟩ = some (.int .i64 pvv) := fun u => Ext.cell e4 u
  have d6 : ∀ u : Ext X, u.W.cell? ⟨pb, 6, none⟩ = some (.string pt) := fun u => Ext.cell e6 u
  have d39 : ∀ u : Ext X, u.W.cell? ⟨nb, 39, none⟩ = some (.int .i64 s.lr) := fun u => Ext.cell e39 u
  have d40 : ∀ u : Ext X, u.W.cell? ⟨nb, 40, none⟩ = some (.string s.lv) := fun u => Ext.cell e40 u
  have E6 := hide e6
  clear e4 e6 e39 e40 hAX hX hqX2 hpw
  haveI := Ext.ne X
  go_wp2_with fail
  refine wp_region_ext (by kernel_rfl) (by kernel_rfl) ?_
  repeat (first | go_big_quiet_skip | (go_big_quiet_want; first | (refine quiet_load_mid (some 32) rfl 116 _ rfl nb 1 rfl (regL s.x) _ (Ext.range HRX.out) Tryz.underlying116 rfl (by rw [Tryz.sizeRegistry]; simp [regL]) ?_; simp only [AP]; go_big_quiet_on) | (go_big_quiet_op; first | go_big_quiet_on | (apply Exists.intro; refine ⟨fun u => ?_, ?_⟩; (· (have hc := Calls.ext u (isGood_any s.x pt a11 m u.W HOK.out.dom (by omega) ((HWX.out.below u.b).glob.sent.cell 11 _ _ rfl HE11.out) (HWX.out.below u.b).glob.len); rw [hgd] at hc; exact hc)); go_big_quiet_on))))
  refine wpQuiet_nil ?_
  rintro _ ⟨u, rfl⟩
  obtain ⟨Y, hY⟩ : ∃ z, z = u.W := ⟨_, rfl⟩
  have hbY : Below X.heap.size X Y := by rw [hY]; exact u.b
  rw [← hY]
  clear hY u this d4 d6 d39 d40
  have HBY : Hid (Below w.heap.size w Y) := HXB.out.trans (hbY.mono HXB.out.size)
  have HWY := hide (HH.out.below HBY.out)
  clear hbY
  have HSE := hide (prevoteNothing_any HWY.out HOK.out hN HSG.out)
  go_wp2_with fail
  refine HSE.out.mono ?_
  rintro e w4 ⟨rfl, F4, R4, hW4, hG4⟩
  have HEND : Hid (∃ F' R', NodeW B es m F' R' nb kb rb cb n i (s.nothing i 2 2) w4 ∧ Goes F R w F' R' w4) := ⟨F4, R4, hW4, (Goes.below HBY.out).trans hG4⟩
  clear hW4 hG4 HSE
  go_wp2
  go_ret
  exact ⟨by rw [HAN.out]; rfl, by rw [HAN.out]; exact HEND.out⟩

set_option linter.unusedSimpArgs false in
set_option linter.unusedVariables false in
set_option maxRecDepth 100000 in
set_option maxHeartbeats 6400000 in
theorem answer_free {B : Nat} {es : List Addr} {m : Int} {F R : Nat → Prop} {nb kb rb cb n i N : Nat} {s : NodeS} {w : World} (g : Nat) (lb : Array Value) (fits : EntV → Bool) (h : NodeW B es m F R nb kb rb cb n i s w) (ok : StOk N s) (hN : N ≤ 10000000) (hsg : (s.sg i).length ≤ 1000000000000) (eg : EntersP g) (hfit : ∀ W, Below w.heap.size w W → FitsAt g lb fits (s.log.filter fun e => decide (e.m.k = 1) && decide (e.m.r = (s.round : Int))) W) (pk ph pr pf pvv : Int) (pnl : Bool) (pt pfr : ByteArray) (po : Bool) (hst : s.step = 1) (hpf : propF s.log (s.round : Int) fits = some ⟨⟨pk, ph, pr, pf, pvv, pnl, pt⟩, pfr, po⟩) (hz : pt.size ≤ 24) (hgd : (behindR s.x pt).2 = true) (hlr : s.lr ≤ pvv) :
 Calls Tryz.prog 156 #[.pointer (some ⟨nb, 0, none⟩), .func (.func g) #[] lb] w (RuleP B es m F R nb kb rb cb n i (s.answerS i fits) w) := by
 have HAN := hide (answerS_yes (i := i) hst hpf (by unfold NodeS.mayS NodeS.good; simp [hgd, hlr]))
 obtain ⟨V, hA, hf⟩ := h.node
 obtain ⟨p, c, -, c37, hm, hE⟩ := hA.logAt
 obtain ⟨a1, he1⟩ := h.glob.sent.at 1 (by omega)
 obtain ⟨a11, he11⟩ := h.glob.sent.at 11 (by omega)
 have c44 : w.cell? ⟨nb, 44, none⟩ = some (.int .i64 (s.step : Int)) := hA.cell 44 rfl
 have C43 : Hid (w.cell? ⟨nb, 43, none⟩ = some (.int .i64 (s.round : Int))) := hA.cell 43 rfl
 have C37 := hide c37
 have HH := hide h
 have HA := hide hA
 have HOK := hide ok
 have HSG := hide hsg
 have HE1 := hide he1
 have HE11 := hide he11
 have HPROP : Hid (∀ W, Below w.heap.size w W → Calls Tryz.prog 148 #[.slice p s.log.length c, .int .i64 (s.round : Int), .func (.func g) #[] lb] W fun e w' => e = .returned (propR (propF s.log (s.round : Int) fits)) ∧ Below W.heap.size W w') := fun W hW => proposal_any g lb fits s.log (s.round : Int) p c W eg (hE.ext (Ext.of hW)) hm (hfit W hW)
 have HPROPB := HPROP
 rw [hpf] at HPROP HPROPB
 obtain ⟨x, hxe⟩ : ∃ x : Option EntV, x = some ⟨⟨pk, ph, pr, pf, pvv, pnl, pt⟩, pfr, po⟩ := ⟨_, rfl⟩
 rw [← hxe] at HPROP HPROPB
 have hsm : x.isSome = true := by rw [hxe]; rfl
 have HXE := hide hxe
 have q44 : (s.step : Int) = 1 := by omega
 clear h hA hf ok hsg he1 he11 hfit eg hE hm c37
 clear hst hpf hxe
 go_enter Tryz.func156, Tryz.ntmps156
 go_wp2_with fail
 refine wp_region_held_drew (S := fun X => Below w.heap.size w X) (by kernel_rfl) ((Below.refl _ w).drew) (fun hHeld => ?_)
 refine takeN [(0, some 14, pA nb 0), (1, some 15, pA nb 0), (2, some 16, pA nb 37), (3, some 17, .slice p s.log.length c), (4, some 18, pA nb 0), (5, some 19, pA nb 0), (6, some 20, pA nb 43), (7, some 21, pA nb 43), (8, some 22, .int .i64 (s.round : Int)), (9, some 23, .func (.func g) #[] lb)] _ _ hHeld (by repeat (first | exact True.intro | (refine tkc rfl rfl (Or.inl ⟨by rfl, fun x h => by have f0 : x.cell? ⟨nb, 37, none⟩ = some (.slice p s.log.length c) := Ext.cell C37.out (Ext.of h); have f1 : x.cell? ⟨nb, 43, none⟩ = some (.int .i64 (s.round : Int)) := Ext.cell C43.out (Ext.of h); go_simp⟩) ?_; simp only [AP]))) ?_
 simp only [takesA, AP, pA]
 refine wpAnyH_ready (rs := [10, 14]) (by kernel_rfl) (by simp) ?_
 refine AllReadyH.cons rfl (fun K hK => ?_) (AllReadyH.cons rfl (fun K hK => ?_) AllReadyH.nil)
 focus
  go_simp
  refine (HPROP.out _ (by first | exact hHeld | exact (Below.refl _ w).drew)).mono ?_
  rintro en X2 ⟨rfl, hb2⟩
  have hX2 : Below w.heap.size w X2 := (Below.refl _ w).drew.trans (hb2.mono (Nat.le_refl _))
  clear hb2
  refine hK.out _ _ hX2 (fun hHeld => ?_)
  clear hK K
  try simp only [AP, AQ]
  refine takeN [(11, some 13, propR x), (12, some 25, .agg (x.getD ent0).cells), (13, some 26, .bool true)] _ _ hHeld (by repeat (first | exact True.intro | ((first | (refine tkc rfl rfl (Or.inl ⟨by rfl, fun x h => ?_⟩) ?_; focus (unfold propR; go_simp; done)) | (refine tkc rfl rfl (Or.inl ⟨by rfl, fun x h => ?_⟩) ?_; focus (go_simp; done))); simp only [AP]))) ?_
  simp only [takesA, AP]
  refine rdy1 14 (fun K hK => ?_)
  go_simp
  obtain ⟨X3, hX3e⟩ : ∃ z, z = X2.alloc (.cells #[.int .i64 0, .int .i64 0, .int .i64 0, .int .i64 0, .int .i64 0, .bool false, .string ⟨#[]⟩, .string ⟨#[]⟩, .bool false] 164) := ⟨_, rfl⟩
  have hb3 : Below X2.heap.size X2 X3 := by rw [hX3e]; exact (Below.refl _ X2).alloc (Nat.le_refl _) _
  have hq3 : X3.heap[X2.heap.size]? = some (.cells #[.int .i64 0, .int .i64 0, .int .i64 0, .int .i64 0, .int .i64 0, .bool false, .string ⟨#[]⟩, .string ⟨#[]⟩, .bool false] 164 (0, 0)) := by rw [hX3e]; exact heap_alloc_new X2 _
  rw [← hX3e]
  have hX3 : Below w.heap.size w X3 := hX2.trans (hb3.mono hX2.size)
  refine hK.out _ _ hX3 (fun hHeld => ?_)
  clear hK K hX3e
  try simp only [AP, AQ]
  refine rdy1 15 (fun K hK => ?_)
  rw [if_pos (by rfl)]
  refine wp_store_midG 164 _ _ rfl X2.heap.size 0 ((x.getD ent0).cells) rfl rfl 164 #[.int .i64 0, .int .i64 0, .int .i64 0, .int .i64 0, .int .i64 0, .bool false, .string ⟨#[]⟩, .string ⟨#[]⟩, .bool false] hq3 (by simp [EntV.cells]) (by simp [EntV.cells, Value.oneCell']) (by rw [Tryz.sizeEnt]; simp [EntV.cells]) ?_
  intro X hqX hoX
  have hqX2 : X.heap[X2.heap.size]? = some (.cells ((x.getD ent0).cells) 164 (0, 0)) := hqX
  have hX : Below w.heap.size w X := hX3.trans (hoX.below hX2.size)
  refine hK.out _ _ hX (fun hHeld => ?_)
  clear hK K
  try simp only [AP, AQ]
  refine takeM [(16, some 6, .bool true)] _ _ hHeld ?_
  simp only [takesA, AP]
  refine wpAnyH_done (by kernel_rfl) ?_ _
  obtain ⟨pb, hpb⟩ : ∃ z, z = X2.heap.size := ⟨_, rfl⟩
  rw [← hpb] at hqX2
  rw [← hpb]
  have hpw : w.heap.size ≤ pb := by rw [hpb]; exact hX2.size
  clear hpb hqX hoX hb3 hq3 hX3 hX2
 rotate_left
 focus
  go_simp
  obtain ⟨X3, hX3e⟩ : ∃ z, z = (w.alloc (.cells #[.int .i64 0, .int .i64 0, .int .i64 0, .int .i64 0, .int .i64 0, .bool false, .string ⟨#[]⟩, .string ⟨#[]⟩, .bool false] 164)).drew := ⟨_, rfl⟩
  have hX3 : Below w.heap.size w X3 := by rw [hX3e]; exact ((Below.refl _ w).alloc (Nat.le_refl _) _).drew
  have hq3 : X3.heap[w.heap.size]? = some (.cells #[.int .i64 0, .int .i64 0, .int .i64 0, .int .i64 0, .int .i64 0, .bool false, .string ⟨#[]⟩, .string ⟨#[]⟩, .bool false] 164 (0, 0)) := by rw [hX3e]; exact heap_alloc_new w _
  rw [← hX3e]
  refine hK.out _ _ hX3 (fun hHeld => ?_)
  clear hK K hX3e
  try simp only [AP, AQ]
  refine rdy1 10 (fun K hK => ?_)
  go_simp
  refine (HPROPB.out _ (by first | exact hHeld | exact (Below.refl _ w).drew)).mono ?_
  rintro en X2 ⟨rfl, hb2⟩
  have hX2 : Below w.heap.size w X2 := hX3.trans (hb2.mono hX3.size)
  have hq2 := blk hq3 hb2
  refine hK.out _ _ hX2 (fun hHeld => ?_)
  clear hK K
  try simp only [AP, AQ]
  refine takeN [(11, some 13, propR x), (12, some 25, .agg (x.getD ent0).cells), (13, some 26, .bool true)] _ _ hHeld (by repeat (first | exact True.intro | ((first | (refine tkc rfl rfl (Or.inl ⟨by rfl, fun x h => ?_⟩) ?_; focus (unfold propR; go_simp; done)) | (refine tkc rfl rfl (Or.inl ⟨by rfl, fun x h => ?_⟩) ?_; focus (go_simp; done))); simp only [AP]))) ?_
  simp only [takesA, AP]
  refine rdy1 15 (fun K hK => ?_)
  rw [if_pos (by rfl)]
  refine wp_store_midG 164 _ _ rfl w.heap.size 0 ((x.getD ent0).cells) rfl rfl 164 #[.int .i64 0, .int .i64 0, .int .i64 0, .int .i64 0, .int .i64 0, .bool false, .string ⟨#[]⟩, .string ⟨#[]⟩, .bool false] hq2 (by simp [EntV.cells]) (by simp [EntV.cells, Value.oneCell']) (by rw [Tryz.sizeEnt]; simp [EntV.cells]) ?_
  intro X hqX hoX
  have hqX2 : X.heap[w.heap.size]? = some (.cells ((x.getD ent0).cells) 164 (0, 0)) := hqX
  have hX : Below w.heap.size w X := hX2.trans (hoX.below (Nat.le_refl _))
  refine hK.out _ _ hX (fun hHeld => ?_)
  clear hK K
  try simp only [AP, AQ]
  refine takeM [(16, some 6, .bool true)] _ _ hHeld ?_
  simp only [takesA, AP]
  refine wpAnyH_done (by kernel_rfl) ?_ _
  obtain ⟨pb, hpb⟩ : ∃ z, z = w.heap.size := ⟨_, rfl⟩
  rw [← hpb] at hqX2
  rw [← hpb]
  have hpw : w.heap.size ≤ pb := by rw [hpb]; exact Nat.le_refl _
  clear hpb hqX hoX hb2 hq2 hq3 hX3 hX2
 rotate_left
 all_goals
  rw [HXE.out] at hqX2
  have HXB := hide hX
  have e4 : X.cell? ⟨pb, 4, none⟩ = some (.int .i64 pvv) := cell_of_row X pb 4 _ _ _ hqX2
  have e6 : X.cell? ⟨pb, 6, none⟩ = some (.string pt) := cell_of_row X pb 6 _ _ _ hqX2
  have hAX := HA.out.below hX
  have HRX := hide hAX.reg
  have HWX := hide (HH.out.below hX)
  have e39 : X.cell? ⟨nb, 39, none⟩ = some (.int .i64 s.lr) := hAX.cell 39 rfl
  have e40 : X.cell? ⟨nb, 40, none⟩ = some (.string s.lv) := hAX.cell 40 rfl
  have d4 : ∀ u : Ext X, u.W.cell? ⟨pb, 4, none⟩ = some (.int .i64 pvv) := fun u => Ext.cell e4 u
  have d6 : ∀ u : Ext X, u.W.cell? ⟨pb, 6, none⟩ = some (.string pt) := fun u => Ext.cell e6 u
  have d39 : ∀ u : Ext X, u.W.cell? ⟨nb, 39, none⟩ = some (.int .i64 s.lr) := fun u => Ext.cell e39 u
  have d40 : ∀ u : Ext X, u.W.cell? ⟨nb, 40, none⟩ = some (.string s.lv) := fun u => Ext.cell e40 u
  have E6 := hide e6
  clear e4 e6 e39 e40 hAX hX hqX2 hpw
  haveI := Ext.ne X
  go_wp2_with fail
  refine wp_region_ext (by kernel_rfl) (by kernel_rfl) ?_
  repeat (first | go_big_quiet_skip | (go_big_quiet_want; first | (refine quiet_load_mid (some 32) rfl 116 _ rfl nb 1 rfl (regL s.x) _ (Ext.range HRX.out) Tryz.underlying116 rfl (by rw [Tryz.sizeRegistry]; simp [regL]) ?_; simp only [AP]; go_big_quiet_on) | (go_big_quiet_op; first | go_big_quiet_on | (apply Exists.intro; refine ⟨fun u => ?_, ?_⟩; (· (have hc := Calls.ext u (isGood_any s.x pt a11 m u.W HOK.out.dom (by omega) ((HWX.out.below u.b).glob.sent.cell 11 _ _ rfl HE11.out) (HWX.out.below u.b).glob.len); rw [hgd] at hc; exact hc)); go_big_quiet_on))))
  refine wpQuiet_nil ?_
  rintro _ ⟨u, rfl⟩
  obtain ⟨Y, hY⟩ : ∃ z, z = u.W := ⟨_, rfl⟩
  have hbY : Below X.heap.size X Y := by rw [hY]; exact u.b
  rw [← hY]
  clear hY u this d4 d6 d39 d40
  have HBY : Hid (Below w.heap.size w Y) := HXB.out.trans (hbY.mono HXB.out.size)
  have HWY := hide (HH.out.below HBY.out)
  have y6 : Y.cell? ⟨pb, 6, none⟩ = some (.string pt) := Ext.cell E6.out (Ext.of hbY)
  clear hbY
  have HSE := hide (send_any 2 0 0 0 0 false pt a1 HWY.out HE1.out (by have := HOK.out.log; omega) (by have := HOK.out.ahead; omega) (by have := HSG.out; omega) (by unfold maxLen; omega))
  go_wp2_with fail
  refine HSE.out.mono ?_
  rintro e w4 ⟨rfl, F4, R4, hW4, hG4⟩
  obtain ⟨c44, f44⟩ := hW4.stepAt
  obtain ⟨hW5, hG5⟩ := hW4.setStep 2
  have HEND : Hid (∃ F' R', NodeW B es m F' R' nb kb rb cb n i ((s.sendS i 2 0 false pt).atStep 2) (w4.setCell ⟨nb, 44, none⟩ (.int .i64 2)) ∧ Goes F R w F' R' (w4.setCell ⟨nb, 44, none⟩ (.int .i64 2))) := ⟨F4, R4, hW5, (Goes.below HBY.out).trans (hG4.trans hG5)⟩
  clear hW4 hG4 hW5 hG5 HSE
  go_wp2
  go_ret
  exact ⟨by rw [HAN.out]; rfl, by rw [HAN.out]; exact HEND.out⟩

set_option linter.unusedSimpArgs false in
set_option linter.unusedVariables false in
set_option maxRecDepth 100000 in
set_option maxHeartbeats 6400000 in
theorem answer_same {B : Nat} {es : List Addr} {m : Int} {F R : Nat → Prop} {nb kb rb cb n i N : Nat} {s : NodeS} {w : World} (g : Nat) (lb : Array Value) (fits : EntV → Bool) (h : NodeW B es m F R nb kb rb cb n i s w) (ok : StOk N s) (hN : N ≤ 10000000) (hsg : (s.sg i).length ≤ 1000000000000) (eg : EntersP g) (hfit : ∀ W, Below w.heap.size w W → FitsAt g lb fits (s.log.filter fun e => decide (e.m.k = 1) && decide (e.m.r = (s.round : Int))) W) (pk ph pr pf pvv : Int) (pnl : Bool) (pt pfr : ByteArray) (po : Bool) (hst : s.step = 1) (hpf : propF s.log (s.round : Int) fits = some ⟨⟨pk, ph, pr, pf, pvv, pnl, pt⟩, pfr, po⟩) (hz : pt.size ≤ 24) (hgd : (behindR s.x pt).2 = true) (hlr : ¬ s.lr ≤ pvv) (hlv : s.lv = pt) :
 Calls Tryz.prog 156 #[.pointer (some ⟨nb, 0, none⟩), .func (.func g) #[] lb] w (RuleP B es m F R nb kb rb cb n i (s.answerS i fits) w) := by
 have HAN := hide (answerS_yes (i := i) hst hpf (by unfold NodeS.mayS NodeS.good; simp [hgd, hlv]))
 obtain ⟨V, hA, hf⟩ := h.node
 obtain ⟨p, c, -, c37, hm, hE⟩ := hA.logAt
 obtain ⟨a1, he1⟩ := h.glob.sent.at 1 (by omega)
 obtain ⟨a11, he11⟩ := h.glob.sent.at 11 (by omega)
 have c44 : w.cell? ⟨nb, 44, none⟩ = some (.int .i64 (s.step : Int)) := hA.cell 44 rfl
 have C43 : Hid (w.cell? ⟨nb, 43, none⟩ = some (.int .i64 (s.round : Int))) := hA.cell 43 rfl
 have C37 := hide c37
 have HH := hide h
 have HA := hide hA
 have HOK := hide ok
 have HSG := hide hsg
 have HE1 := hide he1
 have HE11 := hide he11
 have HPROP : Hid (∀ W, Below w.heap.size w W → Calls Tryz.prog 148 #[.slice p s.log.length c, .int .i64 (s.round : Int), .func (.func g) #[] lb] W fun e w' => e = .returned (propR (propF s.log (s.round : Int) fits)) ∧ Below W.heap.size W w') := fun W hW => proposal_any g lb fits s.log (s.round : Int) p c W eg (hE.ext (Ext.of hW)) hm (hfit W hW)
 have HPROPB := HPROP
 rw [hpf] at HPROP HPROPB
 obtain ⟨x, hxe⟩ : ∃ x : Option EntV, x = some ⟨⟨pk, ph, pr, pf, pvv, pnl, pt⟩, pfr, po⟩ := ⟨_, rfl⟩
 rw [← hxe] at HPROP HPROPB
 have hsm : x.isSome = true := by rw [hxe]; rfl
 have HXE := hide hxe
 have q44 : (s.step : Int) = 1 := by omega
 clear h hA hf ok hsg he1 he11 hfit eg hE hm c37
 clear hst hpf hxe
 have qlr : decide (s.lr ≤ pvv) = false := decide_eq_false hlr
 go_enter Tryz.func156, Tryz.ntmps156
 go_wp2_with fail
 refine wp_region_held_drew (S := fun X => Below w.heap.size w X) (by kernel_rfl) ((Below.refl _ w).drew) (fun hHeld => ?_)
 refine takeN [(0, some 14, pA nb 0), (1, some 15, pA nb 0), (2, some 16, pA nb 37), (3, some 17, .slice p s.log.length c), (4, some 18, pA nb 0), (5, some 19, pA nb 0), (6, some 20, pA nb 43), (7, some 21, pA nb 43), (8, some 22, .int .i64 (s.round : Int)), (9, some 23, .func (.func g) #[] lb)] _ _ hHeld (by repeat (first | exact True.intro | (refine tkc rfl rfl (Or.inl ⟨by rfl, fun x h => by have f0 : x.cell? ⟨nb, 37, none⟩ = some (.slice p s.log.length c) := Ext.cell C37.out (Ext.of h); have f1 : x.cell? ⟨nb, 43, none⟩ = some (.int .i64 (s.round : Int)) := Ext.cell C43.out (Ext.of h); go_simp⟩) ?_; simp only [AP]))) ?_
 simp only [takesA, AP, pA]
 refine wpAnyH_ready (rs := [10, 14]) (by kernel_rfl) (by simp) ?_
 refine AllReadyH.cons rfl (fun K hK => ?_) (AllReadyH.cons rfl (fun K hK => ?_) AllReadyH.nil)
 focus
  go_simp
  refine (HPROP.out _ (by first | exact hHeld | exact (Below.refl _ w).drew)).mono ?_
  rintro en X2 ⟨rfl, hb2⟩
  have hX2 : Below w.heap.size w X2 := (Below.refl _ w).drew.trans (hb2.mono (Nat.le_refl _))
  clear hb2
  refine hK.out _ _ hX2 (fun hHeld => ?_)
  clear hK K
  try simp only [AP, AQ]
  refine takeN [(11, some 13, propR x), (12, some 25, .agg (x.getD ent0).cells), (13, some 26, .bool true)] _ _ hHeld (by repeat (first | exact True.intro | ((first | (refine tkc rfl rfl (Or.inl ⟨by rfl, fun x h => ?_⟩) ?_; focus (unfold propR; go_simp; done)) | (refine tkc rfl rfl (Or.inl ⟨by rfl, fun x h => ?_⟩) ?_; focus (go_simp; done))); simp only [AP]))) ?_
  simp only [takesA, AP]
  refine rdy1 14 (fun K hK => ?_)
  go_simp
  obtain ⟨X3, hX3e⟩ : ∃ z, z = X2.alloc (.cells #[.int .i64 0, .int .i64 0, .int .i64 0, .int .i64 0, .int .i64 0, .bool false, .string ⟨#[]⟩, .string ⟨#[]⟩, .bool false] 164) := ⟨_, rfl⟩
  have hb3 : Below X2.heap.size X2 X3 := by rw [hX3e]; exact (Below.refl _ X2).alloc (Nat.le_refl _) _
  have hq3 : X3.heap[X2.heap.size]? = some (.cells #[.int .i64 0, .int .i64 0, .int .i64 0, .int .i64 0, .int .i64 0, .bool false, .string ⟨#[]⟩, .string ⟨#[]⟩, .bool false] 164 (0, 0)) := by rw [hX3e]; exact heap_alloc_new X2 _
  rw [← hX3e]
  have hX3 : Below w.heap.size w X3 := hX2.trans (hb3.mono hX2.size)
  refine hK.out _ _ hX3 (fun hHeld => ?_)
  clear hK K hX3e
  try simp only [AP, AQ]
  refine rdy1 15 (fun K hK => ?_)
  rw [if_pos (by rfl)]
  refine wp_store_midG 164 _ _ rfl X2.heap.size 0 ((x.getD ent0).cells) rfl rfl 164 #[.int .i64 0, .int .i64 0, .int .i64 0, .int .i64 0, .int .i64 0, .bool false, .string ⟨#[]⟩, .string ⟨#[]⟩, .bool false] hq3 (by simp [EntV.cells]) (by simp [EntV.cells, Value.oneCell']) (by rw [Tryz.sizeEnt]; simp [EntV.cells]) ?_
  intro X hqX hoX
  have hqX2 : X.heap[X2.heap.size]? = some (.cells ((x.getD ent0).cells) 164 (0, 0)) := hqX
  have hX : Below w.heap.size w X := hX3.trans (hoX.below hX2.size)
  refine hK.out _ _ hX (fun hHeld => ?_)
  clear hK K
  try simp only [AP, AQ]
  refine takeM [(16, some 6, .bool true)] _ _ hHeld ?_
  simp only [takesA, AP]
  refine wpAnyH_done (by kernel_rfl) ?_ _
  obtain ⟨pb, hpb⟩ : ∃ z, z = X2.heap.size := ⟨_, rfl⟩
  rw [← hpb] at hqX2
  rw [← hpb]
  have hpw : w.heap.size ≤ pb := by rw [hpb]; exact hX2.size
  clear hpb hqX hoX hb3 hq3 hX3 hX2
 rotate_left
 focus
  go_simp
  obtain ⟨X3, hX3e⟩ : ∃ z, z = (w.alloc (.cells #[.int .i64 0, .int .i64 0, .int .i64 0, .int .i64 0, .int .i64 0, .bool false, .string ⟨#[]⟩, .string ⟨#[]⟩, .bool false] 164)).drew := ⟨_, rfl⟩
  have hX3 : Below w.heap.size w X3 := by rw [hX3e]; exact ((Below.refl _ w).alloc (Nat.le_refl _) _).drew
  have hq3 : X3.heap[w.heap.size]? = some (.cells #[.int .i64 0, .int .i64 0, .int .i64 0, .int .i64 0, .int .i64 0, .bool false, .string ⟨#[]⟩, .string ⟨#[]⟩, .bool false] 164 (0, 0)) := by rw [hX3e]; exact heap_alloc_new w _
  rw [← hX3e]
  refine hK.out _ _ hX3 (fun hHeld => ?_)
  clear hK K hX3e
  try simp only [AP, AQ]
  refine rdy1 10 (fun K hK => ?_)
  go_simp
  refine (HPROPB.out _ (by first | exact hHeld | exact (Below.refl _ w).drew)).mono ?_
  rintro en X2 ⟨rfl, hb2⟩
  have hX2 : Below w.heap.size w X2 := hX3.trans (hb2.mono hX3.size)
  have hq2 := blk hq3 hb2
  refine hK.out _ _ hX2 (fun hHeld => ?_)
  clear hK K
  try simp only [AP, AQ]
  refine takeN [(11, some 13, propR x), (12, some 25, .agg (x.getD ent0).cells), (13, some 26, .bool true)] _ _ hHeld (by repeat (first | exact True.intro | ((first | (refine tkc rfl rfl (Or.inl ⟨by rfl, fun x h => ?_⟩) ?_; focus (unfold propR; go_simp; done)) | (refine tkc rfl rfl (Or.inl ⟨by rfl, fun x h => ?_⟩) ?_; focus (go_simp; done))); simp only [AP]))) ?_
  simp only [takesA, AP]
  refine rdy1 15 (fun K hK => ?_)
  rw [if_pos (by rfl)]
  refine wp_store_midG 164 _ _ rfl w.heap.size 0 ((x.getD ent0).cells) rfl rfl 164 #[.int .i64 0, .int .i64 0, .int .i64 0, .int .i64 0, .int .i64 0, .bool false, .string ⟨#[]⟩, .string ⟨#[]⟩, .bool false] hq2 (by simp [EntV.cells]) (by simp [EntV.cells, Value.oneCell']) (by rw [Tryz.sizeEnt]; simp [EntV.cells]) ?_
  intro X hqX hoX
  have hqX2 : X.heap[w.heap.size]? = some (.cells ((x.getD ent0).cells) 164 (0, 0)) := hqX
  have hX : Below w.heap.size w X := hX2.trans (hoX.below (Nat.le_refl _))
  refine hK.out _ _ hX (fun hHeld => ?_)
  clear hK K
  try simp only [AP, AQ]
  refine takeM [(16, some 6, .bool true)] _ _ hHeld ?_
  simp only [takesA, AP]
  refine wpAnyH_done (by kernel_rfl) ?_ _
  obtain ⟨pb, hpb⟩ : ∃ z, z = w.heap.size := ⟨_, rfl⟩
  rw [← hpb] at hqX2
  rw [← hpb]
  have hpw : w.heap.size ≤ pb := by rw [hpb]; exact Nat.le_refl _
  clear hpb hqX hoX hb2 hq2 hq3 hX3 hX2
 rotate_left
 all_goals
  rw [HXE.out] at hqX2
  have HXB := hide hX
  have e4 : X.cell? ⟨pb, 4, none⟩ = some (.int .i64 pvv) := cell_of_row X pb 4 _ _ _ hqX2
  have e6 : X.cell? ⟨pb, 6, none⟩ = some (.string pt) := cell_of_row X pb 6 _ _ _ hqX2
  have hAX := HA.out.below hX
  have HRX := hide hAX.reg
  have HWX := hide (HH.out.below hX)
  have e39 : X.cell? ⟨nb, 39, none⟩ = some (.int .i64 s.lr) := hAX.cell 39 rfl
  have e40 : X.cell? ⟨nb, 40, none⟩ = some (.string s.lv) := hAX.cell 40 rfl
  have d4 : ∀ u : Ext X, u.W.cell? ⟨pb, 4, none⟩ = some (.int .i64 pvv) := fun u => Ext.cell e4 u
  have d6 : ∀ u : Ext X, u.W.cell? ⟨pb, 6, none⟩ = some (.string pt) := fun u => Ext.cell e6 u
  have d39 : ∀ u : Ext X, u.W.cell? ⟨nb, 39, none⟩ = some (.int .i64 s.lr) := fun u => Ext.cell e39 u
  have d40 : ∀ u : Ext X, u.W.cell? ⟨nb, 40, none⟩ = some (.string s.lv) := fun u => Ext.cell e40 u
  have E6 := hide e6
  clear e4 e6 e39 e40 hAX hX hqX2 hpw
  haveI := Ext.ne X
  go_wp2_with fail
  refine wp_region_ext (by kernel_rfl) (by kernel_rfl) ?_
  repeat (first | go_big_quiet_skip | (go_big_quiet_want; first | (refine quiet_load_mid (some 32) rfl 116 _ rfl nb 1 rfl (regL s.x) _ (Ext.range HRX.out) Tryz.underlying116 rfl (by rw [Tryz.sizeRegistry]; simp [regL]) ?_; simp only [AP]; go_big_quiet_on) | (go_big_quiet_op; first | go_big_quiet_on | (apply Exists.intro; refine ⟨fun u => ?_, ?_⟩; (· (have hc := Calls.ext u (isGood_any s.x pt a11 m u.W HOK.out.dom (by omega) ((HWX.out.below u.b).glob.sent.cell 11 _ _ rfl HE11.out) (HWX.out.below u.b).glob.len); rw [hgd] at hc; exact hc)); go_big_quiet_on))))
  refine wpQuiet_nil ?_
  rintro _ ⟨u, rfl⟩
  obtain ⟨Y, hY⟩ : ∃ z, z = u.W := ⟨_, rfl⟩
  have hbY : Below X.heap.size X Y := by rw [hY]; exact u.b
  rw [← hY]
  clear hY u this d4 d6 d39 d40
  have HBY : Hid (Below w.heap.size w Y) := HXB.out.trans (hbY.mono HXB.out.size)
  have HWY := hide (HH.out.below HBY.out)
  have y6 : Y.cell? ⟨pb, 6, none⟩ = some (.string pt) := Ext.cell E6.out (Ext.of hbY)
  clear hbY
  have HSE := hide (send_any 2 0 0 0 0 false pt a1 HWY.out HE1.out (by have := HOK.out.log; omega) (by have := HOK.out.ahead; omega) (by have := HSG.out; omega) (by unfold maxLen; omega))
  go_wp2_with fail
  refine HSE.out.mono ?_
  rintro e w4 ⟨rfl, F4, R4, hW4, hG4⟩
  obtain ⟨c44, f44⟩ := hW4.stepAt
  obtain ⟨hW5, hG5⟩ := hW4.setStep 2
  have HEND : Hid (∃ F' R', NodeW B es m F' R' nb kb rb cb n i ((s.sendS i 2 0 false pt).atStep 2) (w4.setCell ⟨nb, 44, none⟩ (.int .i64 2)) ∧ Goes F R w F' R' (w4.setCell ⟨nb, 44, none⟩ (.int .i64 2))) := ⟨F4, R4, hW5, (Goes.below HBY.out).trans (hG4.trans hG5)⟩
  clear hW4 hG4 hW5 hG5 HSE
  go_wp2
  go_ret
  exact ⟨by rw [HAN.out]; rfl, by rw [HAN.out]; exact HEND.out⟩

set_option linter.unusedSimpArgs false in
set_option linter.unusedVariables false in
set_option maxRecDepth 100000 in
set_option maxHeartbeats 6400000 in
theorem answer_else {B : Nat} {es : List Addr} {m : Int} {F R : Nat → Prop} {nb kb rb cb n i N : Nat} {s : NodeS} {w : World} (g : Nat) (lb : Array Value) (fits : EntV → Bool) (h : NodeW B es m F R nb kb rb cb n i s w) (ok : StOk N s) (hN : N ≤ 10000000) (hsg : (s.sg i).length ≤ 1000000000000) (eg : EntersP g) (hfit : ∀ W, Below w.heap.size w W → FitsAt g lb fits (s.log.filter fun e => decide (e.m.k = 1) && decide (e.m.r = (s.round : Int))) W) (pk ph pr pf pvv : Int) (pnl : Bool) (pt pfr : ByteArray) (po : Bool) (hst : s.step = 1) (hpf : propF s.log (s.round : Int) fits = some ⟨⟨pk, ph, pr, pf, pvv, pnl, pt⟩, pfr, po⟩) (hz : pt.size ≤ 24) (hgd : (behindR s.x pt).2 = true) (hlr : ¬ s.lr ≤ pvv) (hlv : ¬ s.lv = pt) :
 Calls Tryz.prog 156 #[.pointer (some ⟨nb, 0, none⟩), .func (.func g) #[] lb] w (RuleP B es m F R nb kb rb cb n i (s.answerS i fits) w) := by
 have HAN := hide (answerS_no (i := i) hst hpf (by unfold NodeS.mayS NodeS.good; simp [hgd, hlr, hlv]))
 obtain ⟨V, hA, hf⟩ := h.node
 obtain ⟨p, c, -, c37, hm, hE⟩ := hA.logAt
 obtain ⟨a1, he1⟩ := h.glob.sent.at 1 (by omega)
 obtain ⟨a11, he11⟩ := h.glob.sent.at 11 (by omega)
 have c44 : w.cell? ⟨nb, 44, none⟩ = some (.int .i64 (s.step : Int)) := hA.cell 44 rfl
 have C43 : Hid (w.cell? ⟨nb, 43, none⟩ = some (.int .i64 (s.round : Int))) := hA.cell 43 rfl
 have C37 := hide c37
 have HH := hide h
 have HA := hide hA
 have HOK := hide ok
 have HSG := hide hsg
 have HE1 := hide he1
 have HE11 := hide he11
 have HPROP : Hid (∀ W, Below w.heap.size w W → Calls Tryz.prog 148 #[.slice p s.log.length c, .int .i64 (s.round : Int), .func (.func g) #[] lb] W fun e w' => e = .returned (propR (propF s.log (s.round : Int) fits)) ∧ Below W.heap.size W w') := fun W hW => proposal_any g lb fits s.log (s.round : Int) p c W eg (hE.ext (Ext.of hW)) hm (hfit W hW)
 have HPROPB := HPROP
 rw [hpf] at HPROP HPROPB
 obtain ⟨x, hxe⟩ : ∃ x : Option EntV, x = some ⟨⟨pk, ph, pr, pf, pvv, pnl, pt⟩, pfr, po⟩ := ⟨_, rfl⟩
 rw [← hxe] at HPROP HPROPB
 have hsm : x.isSome = true := by rw [hxe]; rfl
 have HXE := hide hxe
 have q44 : (s.step : Int) = 1 := by omega
 clear h hA hf ok hsg he1 he11 hfit eg hE hm c37
 clear hst hpf hxe
 have qlr : decide (s.lr ≤ pvv) = false := decide_eq_false hlr
 have qlv := text_ne hlv
 go_enter Tryz.func156, Tryz.ntmps156
 go_wp2_with fail
 refine wp_region_held_drew (S := fun X => Below w.heap.size w X) (by kernel_rfl) ((Below.refl _ w).drew) (fun hHeld => ?_)
 refine takeN [(0, some 14, pA nb 0), (1, some 15, pA nb 0), (2, some 16, pA nb 37), (3, some 17, .slice p s.log.length c), (4, some 18, pA nb 0), (5, some 19, pA nb 0), (6, some 20, pA nb 43), (7, some 21, pA nb 43), (8, some 22, .int .i64 (s.round : Int)), (9, some 23, .func (.func g) #[] lb)] _ _ hHeld (by repeat (first | exact True.intro | (refine tkc rfl rfl (Or.inl ⟨by rfl, fun x h => by have f0 : x.cell? ⟨nb, 37, none⟩ = some (.slice p s.log.length c) := Ext.cell C37.out (Ext.of h); have f1 : x.cell? ⟨nb, 43, none⟩ = some (.int .i64 (s.round : Int)) := Ext.cell C43.out (Ext.of h); go_simp⟩) ?_; simp only [AP]))) ?_
 simp only [takesA, AP, pA]
 refine wpAnyH_ready (rs := [10, 14]) (by kernel_rfl) (by simp) ?_
 refine AllReadyH.cons rfl (fun K hK => ?_) (AllReadyH.cons rfl (fun K hK => ?_) AllReadyH.nil)
 focus
  go_simp
  refine (HPROP.out _ (by first | exact hHeld | exact (Below.refl _ w).drew)).mono ?_
  rintro en X2 ⟨rfl, hb2⟩
  have hX2 : Below w.heap.size w X2 := (Below.refl _ w).drew.trans (hb2.mono (Nat.le_refl _))
  clear hb2
  refine hK.out _ _ hX2 (fun hHeld => ?_)
  clear hK K
  try simp only [AP, AQ]
  refine takeN [(11, some 13, propR x), (12, some 25, .agg (x.getD ent0).cells), (13, some 26, .bool true)] _ _ hHeld (by repeat (first | exact True.intro | ((first | (refine tkc rfl rfl (Or.inl ⟨by rfl, fun x h => ?_⟩) ?_; focus (unfold propR; go_simp; done)) | (refine tkc rfl rfl (Or.inl ⟨by rfl, fun x h => ?_⟩) ?_; focus (go_simp; done))); simp only [AP]))) ?_
  simp only [takesA, AP]
  refine rdy1 14 (fun K hK => ?_)
  go_simp
  obtain ⟨X3, hX3e⟩ : ∃ z, z = X2.alloc (.cells #[.int .i64 0, .int .i64 0, .int .i64 0, .int .i64 0, .int .i64 0, .bool false, .string ⟨#[]⟩, .string ⟨#[]⟩, .bool false] 164) := ⟨_, rfl⟩
  have hb3 : Below X2.heap.size X2 X3 := by rw [hX3e]; exact (Below.refl _ X2).alloc (Nat.le_refl _) _
  have hq3 : X3.heap[X2.heap.size]? = some (.cells #[.int .i64 0, .int .i64 0, .int .i64 0, .int .i64 0, .int .i64 0, .bool false, .string ⟨#[]⟩, .string ⟨#[]⟩, .bool false] 164 (0, 0)) := by rw [hX3e]; exact heap_alloc_new X2 _
  rw [← hX3e]
  have hX3 : Below w.heap.size w X3 := hX2.trans (hb3.mono hX2.size)
  refine hK.out _ _ hX3 (fun hHeld => ?_)
  clear hK K hX3e
  try simp only [AP, AQ]
  refine rdy1 15 (fun K hK => ?_)
  rw [if_pos (by rfl)]
  refine wp_store_midG 164 _ _ rfl X2.heap.size 0 ((x.getD ent0).cells) rfl rfl 164 #[.int .i64 0, .int .i64 0, .int .i64 0, .int .i64 0, .int .i64 0, .bool false, .string ⟨#[]⟩, .string ⟨#[]⟩, .bool false] hq3 (by simp [EntV.cells]) (by simp [EntV.cells, Value.oneCell']) (by rw [Tryz.sizeEnt]; simp [EntV.cells]) ?_
  intro X hqX hoX
  have hqX2 : X.heap[X2.heap.size]? = some (.cells ((x.getD ent0).cells) 164 (0, 0)) := hqX
  have hX : Below w.heap.size w X := hX3.trans (hoX.below hX2.size)
  refine hK.out _ _ hX (fun hHeld => ?_)
  clear hK K
  try simp only [AP, AQ]
  refine takeM [(16, some 6, .bool true)] _ _ hHeld ?_
  simp only [takesA, AP]
  refine wpAnyH_done (by kernel_rfl) ?_ _
  obtain ⟨pb, hpb⟩ : ∃ z, z = X2.heap.size := ⟨_, rfl⟩
  rw [← hpb] at hqX2
  rw [← hpb]
  have hpw : w.heap.size ≤ pb := by rw [hpb]; exact hX2.size
  clear hpb hqX hoX hb3 hq3 hX3 hX2
 rotate_left
 focus
  go_simp
  obtain ⟨X3, hX3e⟩ : ∃ z, z = (w.alloc (.cells #[.int .i64 0, .int .i64 0, .int .i64 0, .int .i64 0, .int .i64 0, .bool false, .string ⟨#[]⟩, .string ⟨#[]⟩, .bool false] 164)).drew := ⟨_, rfl⟩
  have hX3 : Below w.heap.size w X3 := by rw [hX3e]; exact ((Below.refl _ w).alloc (Nat.le_refl _) _).drew
  have hq3 : X3.heap[w.heap.size]? = some (.cells #[.int .i64 0, .int .i64 0, .int .i64 0, .int .i64 0, .int .i64 0, .bool false, .string ⟨#[]⟩, .string ⟨#[]⟩, .bool false] 164 (0, 0)) := by rw [hX3e]; exact heap_alloc_new w _
  rw [← hX3e]
  refine hK.out _ _ hX3 (fun hHeld => ?_)
  clear hK K hX3e
  try simp only [AP, AQ]
  refine rdy1 10 (fun K hK => ?_)
  go_simp
  refine (HPROPB.out _ (by first | exact hHeld | exact (Below.refl _ w).drew)).mono ?_
  rintro en X2 ⟨rfl, hb2⟩
  have hX2 : Below w.heap.size w X2 := hX3.trans (hb2.mono hX3.size)
  have hq2 := blk hq3 hb2
  refine hK.out _ _ hX2 (fun hHeld => ?_)
  clear hK K
  try simp only [AP, AQ]
  refine takeN [(11, some 13, propR x), (12, some 25, .agg (x.getD ent0).cells), (13, some 26, .bool true)] _ _ hHeld (by repeat (first | exact True.intro | ((first | (refine tkc rfl rfl (Or.inl ⟨by rfl, fun x h => ?_⟩) ?_; focus (unfold propR; go_simp; done)) | (refine tkc rfl rfl (Or.inl ⟨by rfl, fun x h => ?_⟩) ?_; focus (go_simp; done))); simp only [AP]))) ?_
  simp only [takesA, AP]
  refine rdy1 15 (fun K hK => ?_)
  rw [if_pos (by rfl)]
  refine wp_store_midG 164 _ _ rfl w.heap.size 0 ((x.getD ent0).cells) rfl rfl 164 #[.int .i64 0, .int .i64 0, .int .i64 0, .int .i64 0, .int .i64 0, .bool false, .string ⟨#[]⟩, .string ⟨#[]⟩, .bool false] hq2 (by simp [EntV.cells]) (by simp [EntV.cells, Value.oneCell']) (by rw [Tryz.sizeEnt]; simp [EntV.cells]) ?_
  intro X hqX hoX
  have hqX2 : X.heap[w.heap.size]? = some (.cells ((x.getD ent0).cells) 164 (0, 0)) := hqX
  have hX : Below w.heap.size w X := hX2.trans (hoX.below (Nat.le_refl _))
  refine hK.out _ _ hX (fun hHeld => ?_)
  clear hK K
  try simp only [AP, AQ]
  refine takeM [(16, some 6, .bool true)] _ _ hHeld ?_
  simp only [takesA, AP]
  refine wpAnyH_done (by kernel_rfl) ?_ _
  obtain ⟨pb, hpb⟩ : ∃ z, z = w.heap.size := ⟨_, rfl⟩
  rw [← hpb] at hqX2
  rw [← hpb]
  have hpw : w.heap.size ≤ pb := by rw [hpb]; exact Nat.le_refl _
  clear hpb hqX hoX hb2 hq2 hq3 hX3 hX2
 rotate_left
 all_goals
  rw [HXE.out] at hqX2
  have HXB := hide hX
  have e4 : X.cell? ⟨pb, 4, none⟩ = some (.int .i64 pvv) := cell_of_row X pb 4 _ _ _ hqX2
  have e6 : X.cell? ⟨pb, 6, none⟩ = some (.string pt) := cell_of_row X pb 6 _ _ _ hqX2
  have hAX := HA.out.below hX
  have HRX := hide hAX.reg
  have HWX := hide (HH.out.below hX)
  have e39 : X.cell? ⟨nb, 39, none⟩ = some (.int .i64 s.lr) := hAX.cell 39 rfl
  have e40 : X.cell? ⟨nb, 40, none⟩ = some (.string s.lv) := hAX.cell 40 rfl
  have d4 : ∀ u : Ext X, u.W.cell? ⟨pb, 4, none⟩ = some (.int .i64 pvv) := fun u => Ext.cell e4 u
  have d6 : ∀ u : Ext X, u.W.cell? ⟨pb, 6, none⟩ = some (.string pt) := fun u => Ext.cell e6 u
  have d39 : ∀ u : Ext X, u.W.cell? ⟨nb, 39, none⟩ = some (.int .i64 s.lr) := fun u => Ext.cell e39 u
  have d40 : ∀ u : Ext X, u.W.cell? ⟨nb, 40, none⟩ = some (.string s.lv) := fun u => Ext.cell e40 u
  have E6 := hide e6
  clear e4 e6 e39 e40 hAX hX hqX2 hpw
  haveI := Ext.ne X
  go_wp2_with fail
  refine wp_region_ext (by kernel_rfl) (by kernel_rfl) ?_
  repeat (first | go_big_quiet_skip | (go_big_quiet_want; first | (refine quiet_load_mid (some 32) rfl 116 _ rfl nb 1 rfl (regL s.x) _ (Ext.range HRX.out) Tryz.underlying116 rfl (by rw [Tryz.sizeRegistry]; simp [regL]) ?_; simp only [AP]; go_big_quiet_on) | (go_big_quiet_op; first | go_big_quiet_on | (apply Exists.intro; refine ⟨fun u => ?_, ?_⟩; (· (have hc := Calls.ext u (isGood_any s.x pt a11 m u.W HOK.out.dom (by omega) ((HWX.out.below u.b).glob.sent.cell 11 _ _ rfl HE11.out) (HWX.out.below u.b).glob.len); rw [hgd] at hc; exact hc)); go_big_quiet_on))))
  refine wpQuiet_nil ?_
  rintro _ ⟨u, rfl⟩
  obtain ⟨Y, hY⟩ : ∃ z, z = u.W := ⟨_, rfl⟩
  have hbY : Below X.heap.size X Y := by rw [hY]; exact u.b
  rw [← hY]
  clear hY u this d4 d6 d39 d40
  have HBY : Hid (Below w.heap.size w Y) := HXB.out.trans (hbY.mono HXB.out.size)
  have HWY := hide (HH.out.below HBY.out)
  clear hbY
  have HSE := hide (prevoteNothing_any HWY.out HOK.out hN HSG.out)
  go_wp2_with fail
  refine HSE.out.mono ?_
  rintro e w4 ⟨rfl, F4, R4, hW4, hG4⟩
  have HEND : Hid (∃ F' R', NodeW B es m F' R' nb kb rb cb n i (s.nothing i 2 2) w4 ∧ Goes F R w F' R' w4) := ⟨F4, R4, hW4, (Goes.below HBY.out).trans hG4⟩
  clear hW4 hG4 HSE
  go_wp2
  go_ret
  exact ⟨by rw [HAN.out]; rfl, by rw [HAN.out]; exact HEND.out⟩

theorem answer_any {B : Nat} {es : List Addr} {m : Int} {F R : Nat → Prop} {nb kb rb cb n i N : Nat} {s : NodeS} {w : World} (g : Nat) (lb : Array Value) (fits : EntV → Bool) (h : NodeW B es m F R nb kb rb cb n i s w) (ok : StOk N s) (hN : N ≤ 10000000) (hsg : (s.sg i).length ≤ 1000000000000) (eg : EntersP g) (hfit : ∀ W, Below w.heap.size w W → FitsAt g lb fits (s.log.filter fun e => decide (e.m.k = 1) && decide (e.m.r = (s.round : Int))) W) :
 Calls Tryz.prog 156 #[.pointer (some ⟨nb, 0, none⟩), .func (.func g) #[] lb] w (RuleP B es m F R nb kb rb cb n i (s.answerS i fits) w) := by
 by_cases hst : s.step = 1
 · cases hpf : propF s.log (s.round : Int) fits with
   | none => exact answer_none g lb fits h ok hN hsg eg hfit hst hpf
   | some p =>
    have hmem : p ∈ s.log := List.mem_of_find?_eq_some hpf
    have hz := (ok.ids p hmem).z
    obtain ⟨⟨pk, ph, pr, pf, pvv, pnl, pt⟩, pfr, po⟩ := p
    cases hgd : (behindR s.x pt).2 with
    | false => exact answer_bad g lb fits h ok hN hsg eg hfit pk ph pr pf pvv pnl pt pfr po hst hpf hz hgd
    | true =>
     by_cases hlr : s.lr ≤ pvv
     · exact answer_free g lb fits h ok hN hsg eg hfit pk ph pr pf pvv pnl pt pfr po hst hpf hz hgd hlr
     · by_cases hlv : s.lv = pt
       · exact answer_same g lb fits h ok hN hsg eg hfit pk ph pr pf pvv pnl pt pfr po hst hpf hz hgd hlr hlv
       · exact answer_else g lb fits h ok hN hsg eg hfit pk ph pr pf pvv pnl pt pfr po hst hpf hz hgd hlr hlv
 · exact answer_step g lb fits h ok hN hsg eg hfit hst

theorem RuleP.from {B : Nat} {es : List Addr} {m : Int} {F R : Nat → Prop} {nb kb rb cb n i : Nat} {r : Bool × NodeS} {w w1 w' : World} {e : Ending} (hb : Below w.heap.size w w1) (h : RuleP B es m F R nb kb rb cb n i r w1 e w') : RuleP B es m F R nb kb rb cb n i r w e w' := by
 obtain ⟨h1, F', R', h2, h3⟩ := h
 exact ⟨h1, F', R', h2, (Goes.below hb).trans h3⟩
theorem RuleP.same {B : Nat} {es : List Addr} {m : Int} {F R : Nat → Prop} {nb kb rb cb n i : Nat} {s : NodeS} {w w' : World} (h : NodeW B es m F R nb kb rb cb n i s w) (hb : Below w.heap.size w w') : RuleP B es m F R nb kb rb cb n i (false, s) w (.returned (.bool false)) w' := ⟨rfl, F, R, h.below hb, Goes.below hb⟩

def newB (p : EntV) : Bool := decide (p.m.v < 0)
def NodeS.oldB (s : NodeS) (p : EntV) : Bool := decide (0 ≤ p.m.v) && s.most (votesForB 2 p.m.v p.m.s)

set_option linter.unusedSimpArgs false in
set_option linter.unusedVariables false in
set_option maxRecDepth 100000 in
set_option maxHeartbeats 6400000 in
theorem answerNew_any {B : Nat} {es : List Addr} {m : Int} {F R : Nat → Prop} {nb kb rb cb n i N : Nat} {s : NodeS} {w : World} (h : NodeW B es m F R nb kb rb cb n i s w) (ok : StOk N s) (hN : N ≤ 10000000) (hsg : (s.sg i).length ≤ 1000000000000) :
 Calls Tryz.prog 110 #[.pointer (some ⟨nb, 0, none⟩)] w (RuleP B es m F R nb kb rb cb n i (s.answerS i newB) w) := by
 have HC := hide (answer_any 157 #[] newB h ok hN hsg (enters_of Tryz.func157 (by decide) rfl) (fun W hW => new1_fits _ W))
 clear h ok hsg
 go_enter Tryz.func110, Tryz.ntmps110
 go_wp2_with fail
 refine HC.out.mono ?_
 rintro e w2 ⟨rfl, h2⟩
 have H2 := hide h2
 clear h2 HC
 go_wp2
 go_ret
 exact ⟨rfl, H2.out⟩

set_option linter.unusedSimpArgs false in
set_option linter.unusedVariables false in
set_option maxRecDepth 100000 in
set_option maxHeartbeats 6400000 in
theorem answerOld_any {B : Nat} {es : List Addr} {m : Int} {F R : Nat → Prop} {nb kb rb cb n i N : Nat} {s : NodeS} {w : World} (h : NodeW B es m F R nb kb rb cb n i s w) (ok : StOk N s) (hN : N ≤ 10000000) (hsg : (s.sg i).length ≤ 1000000000000) :
 Calls Tryz.prog 111 #[.pointer (some ⟨nb, 0, none⟩)] w (RuleP B es m F R nb kb rb cb n i (s.answerS i s.oldB) w) := by
 have hmf : ∀ (fn : Fn) (first cap : Array Value) (w : World), (Instr.makeFunc fn first cap).run Tryz.prog w = .ok (.func fn first cap) w := fun _ _ _ _ => rfl
 obtain ⟨w1, hw1⟩ : ∃ z, z = w.alloc (.cells #[.pointer (some ⟨nb, 0, none⟩)] 26) := ⟨_, rfl⟩
 have hb1 : Below w.heap.size w w1 := by rw [hw1]; exact (Below.refl _ w).alloc (Nat.le_refl _) _
 have c1 : w1.cell? ⟨w.heap.size, 0, none⟩ = some (.pointer (some ⟨nb, 0, none⟩)) := by rw [hw1]; exact cell_of_row _ w.heap.size 0 _ _ _ (heap_alloc_new w _)
 have c1' : (w.alloc (.cells #[.pointer (some ⟨nb, 0, none⟩)] 26)).cell? ⟨w.heap.size, 0, none⟩ = some (.pointer (some ⟨nb, 0, none⟩)) := by rw [← hw1]; exact c1
 have hW1 := h.below hb1
 obtain ⟨V, hA, hf⟩ := hW1.node
 have HC := hide (answer_any 158 #[.pointer (some ⟨w.heap.size, 0, none⟩)] s.oldB hW1 ok hN hsg (enters_of Tryz.func158 (by decide) rfl) (fun W hW => old1_fits nb kb cb w.heap.size B es m V s _ W (hA.below hW) (Nat.le_trans hW1.bl hW.size) (hW1.below hW).glob (Ext.cell c1 (Ext.of hW)) ok.dom (fun e he => ⟨(ok.ids e he).f0, (ok.ids e he).f8⟩) (fun e he => (ok.ids e (List.mem_filter.1 he).1).z)))
 have HB1 := hide hb1
 have HW1 := hide hw1
 clear h ok hsg hW1 hA hf c1 hb1 hw1
 go_enter Tryz.func111, Tryz.ntmps111
 go_wp2_with fail
 rw [← HW1.out]
 refine HC.out.mono ?_
 intro e w2 h2
 obtain ⟨rfl, h3⟩ := RuleP.from HB1.out h2
 have H2 := hide h3
 clear h2 h3 HC
 go_wp2
 go_ret
 exact ⟨rfl, H2.out⟩

def NodeS.roundB (s : NodeS) (r : Nat) : Bool := decide (s.round < r) && moreB 1 s.x (sendB (fun e => decide (e.m.r = (r : Int))) s.log)
def NodeS.followS (s : NodeS) (i : Nat) : Bool × NodeS := match (List.range 21).find? s.roundB with | none => (false, s) | some r => (true, s.beginR i r)
theorem followS_none {s : NodeS} {i : Nat} (h : ∀ r, s.round < r → r ≤ 20 → s.roundB r = false) : s.followS i = (false, s) := by
 unfold NodeS.followS
 have e : (List.range 21).find? s.roundB = none := by
  rw [List.find?_eq_none]
  intro r hr
  rw [List.mem_range] at hr
  by_cases hl : s.round < r
  · rw [h r hl (by omega)]; exact Bool.false_ne_true
  · unfold NodeS.roundB
    rw [decide_eq_false hl, Bool.false_and]
    exact Bool.false_ne_true
 rw [e]
theorem followS_some {s : NodeS} {i r : Nat} (h : ∀ q, s.round < q → q < r → s.roundB q = false) (hr : r ≤ 20) (hy : s.roundB r = true) : s.followS i = (true, s.beginR i r) := by
 unfold NodeS.followS
 have e : (List.range 21).find? s.roundB = some r := by
  rw [List.find?_range_eq_some]
  refine ⟨hy, by rw [List.mem_range]; omega, fun q hq => ?_⟩
  by_cases hl : s.round < q
  · rw [h q hl hq]; rfl
  · unfold NodeS.roundB
    rw [decide_eq_false hl, Bool.false_and]
    rfl
 rw [e]

set_option linter.unusedSimpArgs false in
set_option linter.unusedVariables false in
set_option maxRecDepth 100000 in
set_option maxHeartbeats 6400000 in
theorem followOthers_any {B : Nat} {es : List Addr} {m : Int} {F R : Nat → Prop} {nb kb rb cb n i N : Nat} {s : NodeS} {w : World} (h : NodeW B es m F R nb kb rb cb n i s w) (ok : StOk N s) (hN : N ≤ 10000000) (hsg : (s.sg i).length ≤ 1000000000000) :
 Calls Tryz.prog 109 #[.pointer (some ⟨nb, 0, none⟩)] w (RuleP B es m F R nb kb rb cb n i (s.followS i) w) := by
 have hmf : ∀ (fn : Fn) (first cap : Array Value) (w : World), (Instr.makeFunc fn first cap).run Tryz.prog w = .ok (.func fn first cap) w := fun _ _ _ _ => rfl
 obtain ⟨V, hA, hf⟩ := h.node
 have c43 : w.cell? ⟨nb, 43, none⟩ = some (.int .i64 (s.round : Int)) := hA.cell 43 rfl
 have hrd : (s.round : Int) ≤ 20 := by have := ok.rnd; omega
 have HH := hide h
 have HA := hide hA
 have HOK := hide ok
 have HSG := hide hsg
 clear h hA hf ok hsg
 go_enter Tryz.func109, Tryz.ntmps109
 go_wp2
 go_loopw [3] (fun q wr => ∃ (j b : Nat), s.round < j ∧ j ≤ 21 ∧ q = .pointer (some ⟨b, 0, none⟩) ∧ w.heap.size ≤ b ∧ wr.heap[b]? = some (.cells #[.int .i64 (j : Int)] 3 (0, 0)) ∧ (∀ r, s.round < r → r < j → s.roundB r = false) ∧ Below w.heap.size w wr) (fun q wr => 21 - (intOf ((wr.cell? ((match q with | .pointer (some a) => a | _ => ⟨0, 0, none⟩))).getD undef)).toNat)
 case atStart =>
  have hj : ((s.round : Int) + 1) = ((s.round + 1 : Nat) : Int) := by omega
  refine ⟨s.round + 1, w.heap.size, by omega, by omega, rfl, Nat.le_refl _, ?_, fun r h1 h2 => by omega, (Below.refl _ w).alloc (Nat.le_refl _) _⟩
  rw [← hj]
  exact heap_alloc_new w _
 case round =>
  obtain ⟨j, rb0, hj1, hj2, rfl, hrb, hcj, hnone, hb⟩ := hrel
  have HB := hide hb
  have HNO := hide hnone
  have HCJ := hide hcj
  have hcr : wr.cell? ⟨rb0, 0, none⟩ = some (.int .i64 (j : Int)) := cell_of_row wr rb0 0 _ _ _ hcj
  have hfz : wr.frozen? ⟨rb0, 0, none⟩ = false := frozen_row hcj 0
  have HCR := hide hcr
  clear hb hnone hcj
  by_cases hend : j = 21
  · have hge : ¬ (j : Int) ≤ 20 := by omega
    have HFO : Hid (s.followS i = (false, s)) := followS_none (fun r h1 h2 => HNO.out r h1 (by omega))
    clear hend
    go_wp2
    go_ret
    rw [HFO.out]
    exact RuleP.same HH.out HB.out
  · have hle : (j : Int) ≤ 20 := by omega
    obtain ⟨p, c, -, c37, hm, hE⟩ := (HA.out.below HB.out).logAt
    have HE := hide hE
    have HM := hide hm
    have HR := hide (HA.out.below HB.out).reg
    have c37u : ∀ u : Ext wr, u.W.cell? ⟨nb, 37, none⟩ = some (.slice p s.log.length c) := fun u => Ext.cell c37 u
    clear hE hm c37 hend
    haveI := Ext.ne wr
    cases hmo : moreB 1 s.x (sendB (fun e => decide (e.m.r = (j : Int))) s.log) with
    | true =>
     have HFO : Hid (s.followS i = (true, s.beginR i j)) := followS_some HNO.out (by omega) (by unfold NodeS.roundB; rw [decide_eq_true hj1, hmo]; rfl)
     go_wp2_with fail
     refine wp_region_ext (by kernel_rfl) (by kernel_rfl) ?_
     repeat (first | go_big_quiet_skip | (go_big_quiet_want; first | (refine quiet_load_mid (some 17) rfl 116 _ rfl nb 1 rfl (regL s.x) _ (Ext.range HR.out) Tryz.underlying116 rfl (by rw [Tryz.sizeRegistry]; simp [regL]) ?_; simp only [AP]; go_big_quiet_on) | (go_big_quiet_op; first | go_big_quiet_on | (apply Exists.intro; refine ⟨fun u => ?_, ?_⟩; (· (first | exact Calls.ext u (senders_any 155 #[.pointer (some ⟨rb0, 0, none⟩)] (fun e => decide (e.m.r = (j : Int))) s.log p c u.W (enters_of Tryz.func155 (by decide) rfl) (HE.out.ext u) HM.out (follow1_fits rb0 (j : Int) s.log u.W (Ext.cell HCR.out u)) (fun e he => ⟨(HOK.out.ids e he).f0, (HOK.out.ids e he).f8⟩)) | (have hc := Calls.ext u (moreThan_any 1 s.x (sendB (fun e => decide (e.m.r = (j : Int))) s.log) u.W HOK.out.dom (by omega) (by omega)); rw [hmo] at hc; exact hc))); go_big_quiet_on))))
     refine wpQuiet_nil ?_
     rintro _ ⟨u, rfl⟩
     obtain ⟨X, hX⟩ : ∃ z, z = u.W := ⟨_, rfl⟩
     have hbX : Below wr.heap.size wr X := by rw [hX]; exact u.b
     have hcX : X.cell? ⟨rb0, 0, none⟩ = some (.int .i64 (j : Int)) := Ext.cell HCR.out (Ext.of hbX)
     rw [← hX]
     clear hX u this c37u hcr hfz
     have HBX : Hid (Below w.heap.size w X) := HB.out.trans (hbX.mono HB.out.size)
     have HBR := hide (beginRound_any j (HH.out.below HBX.out) HOK.out hN (by omega) HSG.out)
     clear hbX
     go_wp2_with fail
     refine HBR.out.mono ?_
     rintro e w4 ⟨rfl, F4, R4, hW4, hG4⟩
     have HEND : Hid (RuleP B es m F R nb kb rb cb n i (s.followS i) w (.returned (.bool true)) w4) := by rw [HFO.out]; exact ⟨rfl, F4, R4, hW4, (Goes.below HBX.out).trans hG4⟩
     clear hW4 hG4 HBR
     go_wp2
     go_ret
     exact HEND.out
    | false =>
     have HN2 : Hid (∀ r, s.round < r → r < j + 1 → s.roundB r = false) := fun r h1 h2 => by
      rcases Nat.lt_or_ge r j with h3 | h3
      · exact HNO.out r h1 h3
      · have e : r = j := by omega
        rw [e]
        unfold NodeS.roundB
        rw [hmo, Bool.and_false]
     go_wp2_with fail
     refine wp_region_ext (by kernel_rfl) (by kernel_rfl) ?_
     repeat (first | go_big_quiet_skip | (go_big_quiet_want; first | (refine quiet_load_mid (some 17) rfl 116 _ rfl nb 1 rfl (regL s.x) _ (Ext.range HR.out) Tryz.underlying116 rfl (by rw [Tryz.sizeRegistry]; simp [regL]) ?_; simp only [AP]; go_big_quiet_on) | (go_big_quiet_op; first | go_big_quiet_on | (apply Exists.intro; refine ⟨fun u => ?_, ?_⟩; (· (first | exact Calls.ext u (senders_any 155 #[.pointer (some ⟨rb0, 0, none⟩)] (fun e => decide (e.m.r = (j : Int))) s.log p c u.W (enters_of Tryz.func155 (by decide) rfl) (HE.out.ext u) HM.out (follow1_fits rb0 (j : Int) s.log u.W (Ext.cell HCR.out u)) (fun e he => ⟨(HOK.out.ids e he).f0, (HOK.out.ids e he).f8⟩)) | (have hc := Calls.ext u (moreThan_any 1 s.x (sendB (fun e => decide (e.m.r = (j : Int))) s.log) u.W HOK.out.dom (by omega) (by omega)); rw [hmo] at hc; exact hc))); go_big_quiet_on))))
     refine wpQuiet_nil ?_
     rintro _ ⟨u, rfl⟩
     obtain ⟨X, hX⟩ : ∃ z, z = u.W := ⟨_, rfl⟩
     have hbX : Below wr.heap.size wr X := by rw [hX]; exact u.b
     have hqX : X.heap[rb0]? = some (.cells #[.int .i64 (j : Int)] 3 (0, 0)) := blk HCJ.out hbX
     have hcX : X.cell? ⟨rb0, 0, none⟩ = some (.int .i64 (j : Int)) := cell_of_row X rb0 0 _ _ _ hqX
     rw [← hX]
     clear hX u this c37u hcr hfz hmo
     have HBX : Hid (Below w.heap.size w X) := HB.out.trans (hbX.mono HB.out.size)
     have hcX2 : (X.alloc (.cells #[.int .i64 (j : Int)] 3)).cell? ⟨X.heap.size, 0, none⟩ = some (.int .i64 (j : Int)) := cell_of_row _ X.heap.size 0 _ _ _ (heap_alloc_new X _)
     have hfX2 : (X.alloc (.cells #[.int .i64 (j : Int)] 3)).frozen? ⟨X.heap.size, 0, none⟩ = false := frozen_row (heap_alloc_new X _) 0
     clear hbX hqX
     go_wp2
     go_roundw
     case rel =>
      have hj : ((j : Int) + 1) = ((j + 1 : Nat) : Int) := by omega
      refine ⟨j + 1, X.heap.size, by omega, by omega, rfl, HBX.out.size, ?_, HN2.out, HBX.out.alloc HBX.out.size _⟩
      rw [← hj]
      exact heap_alloc_new X _
     case measure =>
      have m1 : (X.alloc (.cells #[.int .i64 ((j : Int) + 1)] 3)).cell? ⟨X.heap.size, 0, none⟩ = some (.int .i64 ((j : Int) + 1)) := cell_of_row _ X.heap.size 0 _ _ _ (heap_alloc_new X _)
      have m2 := HCR.out
      simp [intOf, m1, m2]
      omega

def NodeS.giveUpS (s : NodeS) (i : Nat) : Bool × NodeS := if s.step = 2 ∧ s.most (votesNoB 2 (s.round : Int)) = true then (true, s.nothing i 3 3) else (false, s)
def NodeS.wait2S (s : NodeS) : Bool × NodeS := if s.step = 2 ∧ s.b2 = false ∧ s.most (votesB 2 (s.round : Int)) = true then (true, s.timer 2 2) else (false, s)
def NodeS.wait3S (s : NodeS) : Bool × NodeS := if s.b3 = false ∧ s.most (votesB 3 (s.round : Int)) = true then (true, s.timer 3 2) else (false, s)

set_option linter.unusedSimpArgs false in
set_option linter.unusedVariables false in
set_option maxRecDepth 100000 in
set_option maxHeartbeats 6400000 in
theorem giveUp_any {B : Nat} {es : List Addr} {m : Int} {F R : Nat → Prop} {nb kb rb cb n i N : Nat} {s : NodeS} {w : World} (h : NodeW B es m F R nb kb rb cb n i s w) (ok : StOk N s) (hN : N ≤ 10000000) (hsg : (s.sg i).length ≤ 1000000000000) :
 Calls Tryz.prog 113 #[.pointer (some ⟨nb, 0, none⟩)] w (RuleP B es m F R nb kb rb cb n i (s.giveUpS i) w) := by
 obtain ⟨V, hA, hf⟩ := h.node
 have c44 : w.cell? ⟨nb, 44, none⟩ = some (.int .i64 (s.step : Int)) := hA.cell 44 rfl
 have c43 : w.cell? ⟨nb, 43, none⟩ = some (.int .i64 (s.round : Int)) := hA.cell 43 rfl
 have c48 : w.cell? ⟨nb, 48, none⟩ = some (.bool s.b2) := hA.cell 48 rfl
 have c49 : w.cell? ⟨nb, 49, none⟩ = some (.bool s.b3) := hA.cell 49 rfl
 have HH := hide h
 have HA := hide hA
 have HOK := hide ok
 have HSG := hide hsg
 have HID : Hid (∀ e ∈ s.log, 0 ≤ e.m.f ∧ e.m.f < 8) := fun e he => ⟨(ok.ids e he).f0, (ok.ids e he).f8⟩
 clear h hA hf ok hsg
 by_cases hst : s.step = 2
 · cases hm : s.most (votesNoB 2 (s.round : Int)) with
   | true =>
    have HRU : Hid (s.giveUpS i = (true, s.nothing i 3 3)) := by unfold Hid NodeS.giveUpS; rw [if_pos ⟨hst, hm⟩]
    have q2 : (s.step : Int) = 2 := by omega
    clear hst
    go_enter Tryz.func113, Tryz.ntmps113
    go_wp2_with (first | (go_at_call 160; refine (votesNo_any 2 (s.round : Int) _).mono ?_; rintro e w2 ⟨g, lb, rfl, eg, hfit, hb2⟩; have HEG := hide eg; have HFI := hide (hfit s.log); have HB2 := hide hb2; clear eg hfit hb2) | (go_at_call 150; have hmo := most_any nb kb cb g lb (votesNoB 2 (s.round : Int)) V s w2 (HA.out.below HB2.out) HOK.out.dom HEG.out HFI.out HID.out; rw [hm] at hmo; refine hmo.mono ?_; rintro e w3 ⟨rfl, hb3⟩; have HB3 : Hid (Below w.heap.size w w3) := HB2.out.trans (hb3.mono HB2.out.size); clear hb3 hmo) | fail)
    have HAC := hide (precommitNothing_any (HH.out.below HB3.out) HOK.out hN HSG.out)
    refine HAC.out.mono ?_
    rintro e w4 ⟨rfl, F4, R4, hW4, hG4⟩
    have HEND : Hid (RuleP B es m F R nb kb rb cb n i (true, s.nothing i 3 3) w (.returned (.bool true)) w4) := ⟨rfl, F4, R4, hW4, (Goes.below HB3.out).trans hG4⟩
    clear hW4 hG4 HAC
    go_wp2
    go_ret
    rw [HRU.out]
    exact HEND.out
   | false =>
    have HRU : Hid (s.giveUpS i = (false, s)) := by unfold Hid NodeS.giveUpS; rw [if_neg (fun h => by rw [hm] at h; cases h.2)]
    have q2 : (s.step : Int) = 2 := by omega
    clear hst
    go_enter Tryz.func113, Tryz.ntmps113
    go_wp2_with (first | (go_at_call 160; refine (votesNo_any 2 (s.round : Int) _).mono ?_; rintro e w2 ⟨g, lb, rfl, eg, hfit, hb2⟩; have HEG := hide eg; have HFI := hide (hfit s.log); have HB2 := hide hb2; clear eg hfit hb2) | (go_at_call 150; have hmo := most_any nb kb cb g lb (votesNoB 2 (s.round : Int)) V s w2 (HA.out.below HB2.out) HOK.out.dom HEG.out HFI.out HID.out; rw [hm] at hmo; refine hmo.mono ?_; rintro e w3 ⟨rfl, hb3⟩; have HB3 : Hid (Below w.heap.size w w3) := HB2.out.trans (hb3.mono HB2.out.size); clear hb3 hmo))
    go_ret
    rw [HRU.out]
    exact RuleP.same HH.out HB3.out
 · have HRU : Hid (s.giveUpS i = (false, s)) := by unfold Hid NodeS.giveUpS; rw [if_neg (fun h => hst h.1)]
   have q2 : ((s.step : Int) == 2) = false := by rw [beq_eq_false_iff_ne]; omega
   have q2' : ¬ (s.step : Int) = 2 := by omega
   clear hst
   go_enter Tryz.func113, Tryz.ntmps113
   go_wp2
   go_ret
   rw [HRU.out]
   exact RuleP.same HH.out (Below.refl _ w)

set_option linter.unusedSimpArgs false in
set_option linter.unusedVariables false in
set_option maxRecDepth 100000 in
set_option maxHeartbeats 6400000 in
theorem waitForPrevotes_any {B : Nat} {es : List Addr} {m : Int} {F R : Nat → Prop} {nb kb rb cb n i N : Nat} {s : NodeS} {w : World} (h : NodeW B es m F R nb kb rb cb n i s w) (ok : StOk N s) (hN : N ≤ 10000000) (hsg : (s.sg i).length ≤ 1000000000000) :
 Calls Tryz.prog 114 #[.pointer (some ⟨nb, 0, none⟩)] w (RuleP B es m F R nb kb rb cb n i (s.wait2S) w) := by
 obtain ⟨V, hA, hf⟩ := h.node
 have c44 : w.cell? ⟨nb, 44, none⟩ = some (.int .i64 (s.step : Int)) := hA.cell 44 rfl
 have c43 : w.cell? ⟨nb, 43, none⟩ = some (.int .i64 (s.round : Int)) := hA.cell 43 rfl
 have c48 : w.cell? ⟨nb, 48, none⟩ = some (.bool s.b2) := hA.cell 48 rfl
 have c49 : w.cell? ⟨nb, 49, none⟩ = some (.bool s.b3) := hA.cell 49 rfl
 have HH := hide h
 have HA := hide hA
 have HOK := hide ok
 have HSG := hide hsg
 have HID : Hid (∀ e ∈ s.log, 0 ≤ e.m.f ∧ e.m.f < 8) := fun e he => ⟨(ok.ids e he).f0, (ok.ids e he).f8⟩
 clear h hA hf ok hsg
 by_cases hst : s.step = 2
 · cases hb : s.b2 with
   | true =>
    have HRU : Hid (s.wait2S = (false, s)) := by unfold Hid NodeS.wait2S; rw [if_neg (fun h => by rw [hb] at h; cases h.2.1)]
    rw [hb] at c48
    have q2 : (s.step : Int) = 2 := by omega
    clear hst hb
    go_enter Tryz.func114, Tryz.ntmps114
    go_wp2
    go_ret
    rw [HRU.out]
    exact RuleP.same HH.out (Below.refl _ w)
   | false =>
    rw [hb] at c48
    cases hm : s.most (votesB 2 (s.round : Int)) with
    | true =>
     have HRU : Hid (s.wait2S = (true, s.timer 2 2)) := by unfold Hid NodeS.wait2S; rw [if_pos ⟨hst, hb, hm⟩]
     have q2 : (s.step : Int) = 2 := by omega
     clear hst hb
     go_enter Tryz.func114, Tryz.ntmps114
     go_wp2_with (first | (go_at_call 161; refine (votes_any 2 (s.round : Int) _).mono ?_; rintro e w2 ⟨g, lb, rfl, eg, hfit, hb2⟩; have HEG := hide eg; have HFI := hide (hfit s.log); have HB2 := hide hb2; clear eg hfit hb2) | (go_at_call 150; have hmo := most_any nb kb cb g lb (votesB 2 (s.round : Int)) V s w2 (HA.out.below HB2.out) HOK.out.dom HEG.out HFI.out HID.out; rw [hm] at hmo; refine hmo.mono ?_; rintro e w3 ⟨rfl, hb3⟩; have HB3 : Hid (Below w.heap.size w w3) := HB2.out.trans (hb3.mono HB2.out.size); clear hb3 hmo) | fail)
     have HAC := hide (beginTimer_any 2 2 (Or.inr (Or.inl rfl)) (HH.out.below HB3.out) (by have := HOK.out.tims; omega) (by have := HOK.out.tb; omega) HOK.out.time (by omega) (by have := HOK.out.rnd; omega))
     refine HAC.out.mono ?_
     rintro e w4 ⟨rfl, F4, hW4, hG4⟩
     have HEND : Hid (RuleP B es m F R nb kb rb cb n i (true, s.timer 2 2) w (.returned (.bool true)) w4) := ⟨rfl, F4, R, hW4, (Goes.below HB3.out).trans hG4⟩
     clear hW4 hG4 HAC
     go_wp2
     go_ret
     rw [HRU.out]
     exact HEND.out
    | false =>
     have HRU : Hid (s.wait2S = (false, s)) := by unfold Hid NodeS.wait2S; rw [if_neg (fun h => by rw [hm] at h; cases h.2.2)]
     have q2 : (s.step : Int) = 2 := by omega
     clear hst hb
     go_enter Tryz.func114, Tryz.ntmps114
     go_wp2_with (first | (go_at_call 161; refine (votes_any 2 (s.round : Int) _).mono ?_; rintro e w2 ⟨g, lb, rfl, eg, hfit, hb2⟩; have HEG := hide eg; have HFI := hide (hfit s.log); have HB2 := hide hb2; clear eg hfit hb2) | (go_at_call 150; have hmo := most_any nb kb cb g lb (votesB 2 (s.round : Int)) V s w2 (HA.out.below HB2.out) HOK.out.dom HEG.out HFI.out HID.out; rw [hm] at hmo; refine hmo.mono ?_; rintro e w3 ⟨rfl, hb3⟩; have HB3 : Hid (Below w.heap.size w w3) := HB2.out.trans (hb3.mono HB2.out.size); clear hb3 hmo))
     go_ret
     rw [HRU.out]
     exact RuleP.same HH.out HB3.out
 · have HRU : Hid (s.wait2S = (false, s)) := by unfold Hid NodeS.wait2S; rw [if_neg (fun h => hst h.1)]
   have q2 : ((s.step : Int) == 2) = false := by rw [beq_eq_false_iff_ne]; omega
   have q2' : ¬ (s.step : Int) = 2 := by omega
   clear hst
   go_enter Tryz.func114, Tryz.ntmps114
   go_wp2
   go_ret
   rw [HRU.out]
   exact RuleP.same HH.out (Below.refl _ w)

set_option linter.unusedSimpArgs false in
set_option linter.unusedVariables false in
set_option maxRecDepth 100000 in
set_option maxHeartbeats 6400000 in
theorem waitForPrecommits_any {B : Nat} {es : List Addr} {m : Int} {F R : Nat → Prop} {nb kb rb cb n i N : Nat} {s : NodeS} {w : World} (h : NodeW B es m F R nb kb rb cb n i s w) (ok : StOk N s) (hN : N ≤ 10000000) (hsg : (s.sg i).length ≤ 1000000000000) :
 Calls Tryz.prog 115 #[.pointer (some ⟨nb, 0, none⟩)] w (RuleP B es m F R nb kb rb cb n i (s.wait3S) w) := by
 obtain ⟨V, hA, hf⟩ := h.node
 have c44 : w.cell? ⟨nb, 44, none⟩ = some (.int .i64 (s.step : Int)) := hA.cell 44 rfl
 have c43 : w.cell? ⟨nb, 43, none⟩ = some (.int .i64 (s.round : Int)) := hA.cell 43 rfl
 have c48 : w.cell? ⟨nb, 48, none⟩ = some (.bool s.b2) := hA.cell 48 rfl
 have c49 : w.cell? ⟨nb, 49, none⟩ = some (.bool s.b3) := hA.cell 49 rfl
 have HH := hide h
 have HA := hide hA
 have HOK := hide ok
 have HSG := hide hsg
 have HID : Hid (∀ e ∈ s.log, 0 ≤ e.m.f ∧ e.m.f < 8) := fun e he => ⟨(ok.ids e he).f0, (ok.ids e he).f8⟩
 clear h hA hf ok hsg
 cases hb : s.b3 with
 | true =>
  have HRU : Hid (s.wait3S = (false, s)) := by unfold Hid NodeS.wait3S; rw [if_neg (fun h => by rw [hb] at h; cases h.1)]
  rw [hb] at c49
  clear hb
  go_enter Tryz.func115, Tryz.ntmps115
  go_wp2
  go_ret
  rw [HRU.out]
  exact RuleP.same HH.out (Below.refl _ w)
 | false =>
  rw [hb] at c49
  cases hm : s.most (votesB 3 (s.round : Int)) with
  | true =>
   have HRU : Hid (s.wait3S = (true, s.timer 3 2)) := by unfold Hid NodeS.wait3S; rw [if_pos ⟨hb, hm⟩]
   clear hb
   go_enter Tryz.func115, Tryz.ntmps115
   go_wp2_with (first | (go_at_call 161; refine (votes_any 3 (s.round : Int) _).mono ?_; rintro e w2 ⟨g, lb, rfl, eg, hfit, hb2⟩; have HEG := hide eg; have HFI := hide (hfit s.log); have HB2 := hide hb2; clear eg hfit hb2) | (go_at_call 150; have hmo := most_any nb kb cb g lb (votesB 3 (s.round : Int)) V s w2 (HA.out.below HB2.out) HOK.out.dom HEG.out HFI.out HID.out; rw [hm] at hmo; refine hmo.mono ?_; rintro e w3 ⟨rfl, hb3⟩; have HB3 : Hid (Below w.heap.size w w3) := HB2.out.trans (hb3.mono HB2.out.size); clear hb3 hmo) | fail)
   have HAC := hide (beginTimer_any 3 2 (Or.inr (Or.inr rfl)) (HH.out.below HB3.out) (by have := HOK.out.tims; omega) (by have := HOK.out.tb; omega) HOK.out.time (by omega) (by have := HOK.out.rnd; omega))
   refine HAC.out.mono ?_
   rintro e w4 ⟨rfl, F4, hW4, hG4⟩
   have HEND : Hid (RuleP B es m F R nb kb rb cb n i (true, s.timer 3 2) w (.returned (.bool true)) w4) := ⟨rfl, F4, R, hW4, (Goes.below HB3.out).trans hG4⟩
   clear hW4 hG4 HAC
   go_wp2
   go_ret
   rw [HRU.out]
   exact HEND.out
  | false =>
   have HRU : Hid (s.wait3S = (false, s)) := by unfold Hid NodeS.wait3S; rw [if_neg (fun h => by rw [hm] at h; cases h.2)]
   clear hb
   go_enter Tryz.func115, Tryz.ntmps115
   go_wp2_with (first | (go_at_call 161; refine (votes_any 3 (s.round : Int) _).mono ?_; rintro e w2 ⟨g, lb, rfl, eg, hfit, hb2⟩; have HEG := hide eg; have HFI := hide (hfit s.log); have HB2 := hide hb2; clear eg hfit hb2) | (go_at_call 150; have hmo := most_any nb kb cb g lb (votesB 3 (s.round : Int)) V s w2 (HA.out.below HB2.out) HOK.out.dom HEG.out HFI.out HID.out; rw [hm] at hmo; refine hmo.mono ?_; rintro e w3 ⟨rfl, hb3⟩; have HB3 : Hid (Below w.heap.size w w3) := HB2.out.trans (hb3.mono HB2.out.size); clear hb3 hmo))
   go_ret
   rw [HRU.out]
   exact RuleP.same HH.out HB3.out

end Go.Proofs.YtcfjhbcpjpgodaaGreatDoor
