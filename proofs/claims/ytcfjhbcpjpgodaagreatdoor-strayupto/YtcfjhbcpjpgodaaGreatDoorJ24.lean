/- Proved here: what the functions answer by which a node's rules look for proposals. -/
import Derived.Test.YtcfjhbcpjpgodaaGreatDoorJ23
import Derived.Test.YtcfjhbcpjpgodaaGreatDoorTakeL
namespace Go.Proofs.YtcfjhbcpjpgodaaGreatDoor
open Go.RowKit

theorem good_eq (s : NodeS) (t : ByteArray) : s.good t = (behindR s.x t).2 := rfl
theorem below_to {W W1 X : World} (h : Below W.heap.size W W1) (h' : Below W1.heap.size W1 X) : Below W.heap.size W X := h.trans (h'.mono h.size)

set_option linter.unusedSimpArgs false in
set_option linter.unusedVariables false in
set_option maxRecDepth 100000 in
set_option maxHeartbeats 6400000 in
theorem decide1_fits (r b2 : Nat) (nb kb cb b1 B : Nat) (es : List Addr) (m : Int) (V : NodeV) (s : NodeS) (L : List EntV) (w : World) (hA : NodeAt nb kb cb V s w) (hB : B ≤ w.heap.size) (hg : GlobAt B es m w) (c1 : w.cell? ⟨b1, 0, none⟩ = some (.pointer (some ⟨nb, 0, none⟩))) (hx : Dom s.x) (hid : ∀ e ∈ s.log, 0 ≤ e.m.f ∧ e.m.f < 8) (hz : ∀ e ∈ L, e.m.s.size ≤ 24) (c2 : w.cell? ⟨b2, 0, none⟩ = some (.int .i64 (r : Int))) :
 FitsAt 149 #[.pointer (some ⟨b1, 0, none⟩), .pointer (some ⟨b2, 0, none⟩)] (fun p => s.most (votesForB 3 (r : Int) p.m.s) && s.good p.m.s) L w := by
 intro W e he hW
 obtain ⟨⟨kd, H, rr, f, v, nl, t⟩, fr, own⟩ := e
 have htz : t.size ≤ 24 := hz _ he
 obtain ⟨a11, he11⟩ := hg.sent.at 11 (by omega)
 show Calls Tryz.prog 149 #[.agg #[.int .i64 kd, .int .i64 H, .int .i64 rr, .int .i64 f, .int .i64 v, .bool nl, .string t, .string fr, .bool own], .pointer (some ⟨b1, 0, none⟩), .pointer (some ⟨b2, 0, none⟩)] W _
 obtain ⟨W1, hW1⟩ : ∃ z, z = W.alloc (.cells #[.int .i64 kd, .int .i64 H, .int .i64 rr, .int .i64 f, .int .i64 v, .bool nl, .string t, .string fr, .bool own] 164) := ⟨_, rfl⟩
 have hb1 : Below W.heap.size W W1 := by rw [hW1]; exact (Below.refl _ W).alloc (Nat.le_refl _) _
 have hq1 : W1.heap[W.heap.size]? = some (.cells #[.int .i64 kd, .int .i64 H, .int .i64 rr, .int .i64 f, .int .i64 v, .bool nl, .string t, .string fr, .bool own] 164 (0, 0)) := by rw [hW1]; exact heap_alloc_new W _
 have hbw : Below w.heap.size w W1 := hW.trans (hb1.mono hW.size)
 have C6 : Hid (W1.cell? ⟨W.heap.size, 6, none⟩ = some (.string t)) := cell_of_row W1 W.heap.size 6 _ _ _ hq1
 have C4 : Hid (W1.cell? ⟨W.heap.size, 4, none⟩ = some (.int .i64 v)) := cell_of_row W1 W.heap.size 4 _ _ _ hq1
 have HA1 := hide (hA.below hbw)
 have HRG := hide (hA.below hbw).reg
 have HG1 := hide (hg.below hB hbw)
 have HBL : Hid (B ≤ W1.heap.size) := Nat.le_trans hB hbw.size
 have C43 : Hid (W1.cell? ⟨nb, 43, none⟩ = some (.int .i64 (s.round : Int))) := (hA.below hbw).cell 43 rfl
 have C1 : Hid (W1.cell? ⟨b1, 0, none⟩ = some (.pointer (some ⟨nb, 0, none⟩))) := Ext.cell c1 (Ext.of hbw)
 have C2 : Hid (W1.cell? ⟨b2, 0, none⟩ = some (.int .i64 (r : Int))) := Ext.cell c2 (Ext.of hbw)
 have HX := hide hx
 have HID := hide hid
 have HE11 := hide he11
 have HB1 := hide hb1
 have HW1 := hide hW1
 clear hA hg hW he hz hx hid c1 c2 hb1 hq1 hbw hW1 he11 hB
 cases hm : s.most (votesForB 3 (r : Int) t) with
 | true =>
  go_enter Tryz.func149, Tryz.ntmps149
  go_wp2_with fail
  rw [← HW1.out]
  refine wp_region_held_drew (S := fun X => Below W1.heap.size W1 X) (by kernel_rfl) ((Below.refl _ W1).drew) (fun hHeld => ?_)
  refine takeN [(0, some 5, pA nb 0), (1, some 6, .int .i64 (r : Int)), (2, some 7, pA W.heap.size 0), (3, some 8, pA W.heap.size 6), (4, some 9, .string t)] _ _ hHeld (by repeat (first | exact True.intro | (refine tkc rfl rfl (Or.inl ⟨by rfl, fun x h => by have f0 : x.cell? ⟨b1, 0, none⟩ = some (.pointer (some ⟨nb, 0, none⟩)) := Ext.cell C1.out (Ext.of h); have f1 : x.cell? ⟨b2, 0, none⟩ = some (.int .i64 (r : Int)) := Ext.cell C2.out (Ext.of h); have f2 : x.cell? ⟨W.heap.size, 6, none⟩ = some (.string t) := Ext.cell C6.out (Ext.of h); go_simp⟩) ?_; simp only [AP]))) ?_
  simp only [takesA, AP, pA]
  refine rdy1 5 (fun K hK => ?_)
  go_simp
  refine (votesFor_any 3 (r : Int) t _).mono ?_
  rintro en X2 ⟨g, lb, rfl, eg, hfit, hb2⟩
  have hX2 : Below W1.heap.size W1 X2 := (Below.refl _ W1).drew.trans (hb2.mono (Nat.le_refl _))
  clear hb2
  refine hK.out _ _ hX2 (fun hHeld => ?_)
  clear hK K
  try simp only [AP, AQ]
  refine rdy1 6 (fun K hK => ?_)
  go_simp
  have hmo := most_any nb kb cb g lb (votesForB 3 (r : Int) t) V s X2 (HA1.out.below hX2) HX.out eg (hfit s.log) HID.out
  rw [hm] at hmo
  refine hmo.mono ?_
  rintro en X3 ⟨rfl, hb3⟩
  have hX3 : Below W1.heap.size W1 X3 := hX2.trans (hb3.mono hX2.size)
  clear hb3
  refine hK.out _ _ hX3 (fun hHeld => ?_)
  clear hK K
  try simp only [AP, AQ]
  refine takeN [(7, some 12, .bool true), (8, some 13, pA nb 0), (9, some 14, pA nb 0), (10, some 15, pA nb 1), (11, some 16, .agg (regA s.x)), (12, some 17, pA W.heap.size 0), (13, some 18, pA W.heap.size 6), (14, some 19, .string t)] _ _ hHeld (by repeat (first | exact True.intro | ((first | refine tkc rfl rfl (yieldsIf_load_mid (by rfl) 116 _ rfl nb 1 rfl (regL s.x) _ (fun w h => Ext.range HRG.out (Ext.of h)) Tryz.underlying116 rfl (by rw [Tryz.sizeRegistry]; simp [regL])) ?_ | (refine tkc rfl rfl (Or.inl ⟨by rfl, fun x h => ?_⟩) ?_; focus (have f0 : x.cell? ⟨b1, 0, none⟩ = some (.pointer (some ⟨nb, 0, none⟩)) := Ext.cell C1.out (Ext.of h); have f1 : x.cell? ⟨W.heap.size, 6, none⟩ = some (.string t) := Ext.cell C6.out (Ext.of h); go_simp; done))); simp only [AP]))) ?_
  simp only [takesA, AP, pA]
  refine rdy1 15 (fun K hK => ?_)
  go_simp
  have hgo := isGood_any s.x t a11 m X3 HX.out (by omega) ((HG1.out.below HBL.out hX3).sent.cell 11 _ _ rfl HE11.out) (HG1.out.below HBL.out hX3).len
  refine hgo.mono ?_
  rintro en X4 ⟨rfl, hb4⟩
  have hX4 : Below W1.heap.size W1 X4 := hX3.trans (hb4.mono hX3.size)
  clear hb4 hgo
  refine hK.out _ _ hX4 (fun hHeld => ?_)
  clear hK K
  try simp only [AP, AQ]
  refine takeM [(16, some 21, .bool (behindR s.x t).2), (17, some 4, .bool (behindR s.x t).2)] _ _ hHeld ?_
  simp only [takesA, AP]
  refine wpAnyH_done (by kernel_rfl) ?_ _
  go_wp2
  go_ret
  exact ⟨ret_b (by simp only [hm, good_eq, Bool.true_and]), below_to HB1.out hX4⟩
 | false =>
  go_enter Tryz.func149, Tryz.ntmps149
  go_wp2_with fail
  rw [← HW1.out]
  refine wp_region_held_drew (S := fun X => Below W1.heap.size W1 X) (by kernel_rfl) ((Below.refl _ W1).drew) (fun hHeld => ?_)
  refine takeN [(0, some 5, pA nb 0), (1, some 6, .int .i64 (r : Int)), (2, some 7, pA W.heap.size 0), (3, some 8, pA W.heap.size 6), (4, some 9, .string t)] _ _ hHeld (by repeat (first | exact True.intro | (refine tkc rfl rfl (Or.inl ⟨by rfl, fun x h => by have f0 : x.cell? ⟨b1, 0, none⟩ = some (.pointer (some ⟨nb, 0, none⟩)) := Ext.cell C1.out (Ext.of h); have f1 : x.cell? ⟨b2, 0, none⟩ = some (.int .i64 (r : Int)) := Ext.cell C2.out (Ext.of h); have f2 : x.cell? ⟨W.heap.size, 6, none⟩ = some (.string t) := Ext.cell C6.out (Ext.of h); go_simp⟩) ?_; simp only [AP]))) ?_
  simp only [takesA, AP, pA]
  refine rdy1 5 (fun K hK => ?_)
  go_simp
  refine (votesFor_any 3 (r : Int) t _).mono ?_
  rintro en X2 ⟨g, lb, rfl, eg, hfit, hb2⟩
  have hX2 : Below W1.heap.size W1 X2 := (Below.refl _ W1).drew.trans (hb2.mono (Nat.le_refl _))
  clear hb2
  refine hK.out _ _ hX2 (fun hHeld => ?_)
  clear hK K
  try simp only [AP, AQ]
  refine rdy1 6 (fun K hK => ?_)
  go_simp
  have hmo := most_any nb kb cb g lb (votesForB 3 (r : Int) t) V s X2 (HA1.out.below hX2) HX.out eg (hfit s.log) HID.out
  rw [hm] at hmo
  refine hmo.mono ?_
  rintro en X3 ⟨rfl, hb3⟩
  have hX3 : Below W1.heap.size W1 X3 := hX2.trans (hb3.mono hX2.size)
  clear hb3
  refine hK.out _ _ hX3 (fun hHeld => ?_)
  clear hK K
  try simp only [AP, AQ]
  refine takeN [(7, some 12, .bool false), (8, some 13, undef), (9, some 14, undef), (10, some 15, undef), (11, some 16, undef), (12, some 17, undef), (13, some 18, undef), (14, some 19, undef), (15, some 20, undef), (16, some 21, .bool false), (17, some 4, .bool false)] _ _ hHeld (by repeat (first | exact True.intro | ((first | (refine tkc rfl rfl (Or.inl ⟨by rfl, fun x h => ?_⟩) ?_; focus (go_simp; done)) | refine tkc rfl rfl (Or.inr ⟨by rfl, rfl⟩) ?_); simp only [AP]))) ?_
  simp only [takesA, AP]
  refine wpAnyH_done (by kernel_rfl) ?_ _
  go_wp2
  go_ret
  exact ⟨ret_b (by simp only [hm, Bool.false_and]), below_to HB1.out hX3⟩

set_option linter.unusedSimpArgs false in
set_option linter.unusedVariables false in
set_option maxRecDepth 100000 in
set_option maxHeartbeats 6400000 in
theorem hold1_fits (nb kb cb b1 B : Nat) (es : List Addr) (m : Int) (V : NodeV) (s : NodeS) (L : List EntV) (w : World) (hA : NodeAt nb kb cb V s w) (hB : B ≤ w.heap.size) (hg : GlobAt B es m w) (c1 : w.cell? ⟨b1, 0, none⟩ = some (.pointer (some ⟨nb, 0, none⟩))) (hx : Dom s.x) (hid : ∀ e ∈ s.log, 0 ≤ e.m.f ∧ e.m.f < 8) (hz : ∀ e ∈ L, e.m.s.size ≤ 24) :
 FitsAt 159 #[.pointer (some ⟨b1, 0, none⟩)] (fun p => s.most (votesForB 2 (s.round : Int) p.m.s) && s.good p.m.s) L w := by
 intro W e he hW
 obtain ⟨⟨kd, H, rr, f, v, nl, t⟩, fr, own⟩ := e
 have htz : t.size ≤ 24 := hz _ he
 obtain ⟨a11, he11⟩ := hg.sent.at 11 (by omega)
 show Calls Tryz.prog 159 #[.agg #[.int .i64 kd, .int .i64 H, .int .i64 rr, .int .i64 f, .int .i64 v, .bool nl, .string t, .string fr, .bool own], .pointer (some ⟨b1, 0, none⟩)] W _
 obtain ⟨W1, hW1⟩ : ∃ z, z = W.alloc (.cells #[.int .i64 kd, .int .i64 H, .int .i64 rr, .int .i64 f, .int .i64 v, .bool nl, .string t, .string fr, .bool own] 164) := ⟨_, rfl⟩
 have hb1 : Below W.heap.size W W1 := by rw [hW1]; exact (Below.refl _ W).alloc (Nat.le_refl _) _
 have hq1 : W1.heap[W.heap.size]? = some (.cells #[.int .i64 kd, .int .i64 H, .int .i64 rr, .int .i64 f, .int .i64 v, .bool nl, .string t, .string fr, .bool own] 164 (0, 0)) := by rw [hW1]; exact heap_alloc_new W _
 have hbw : Below w.heap.size w W1 := hW.trans (hb1.mono hW.size)
 have C6 : Hid (W1.cell? ⟨W.heap.size, 6, none⟩ = some (.string t)) := cell_of_row W1 W.heap.size 6 _ _ _ hq1
 have C4 : Hid (W1.cell? ⟨W.heap.size, 4, none⟩ = some (.int .i64 v)) := cell_of_row W1 W.heap.size 4 _ _ _ hq1
 have HA1 := hide (hA.below hbw)
 have HRG := hide (hA.below hbw).reg
 have HG1 := hide (hg.below hB hbw)
 have HBL : Hid (B ≤ W1.heap.size) := Nat.le_trans hB hbw.size
 have C43 : Hid (W1.cell? ⟨nb, 43, none⟩ = some (.int .i64 (s.round : Int))) := (hA.below hbw).cell 43 rfl
 have C1 : Hid (W1.cell? ⟨b1, 0, none⟩ = some (.pointer (some ⟨nb, 0, none⟩))) := Ext.cell c1 (Ext.of hbw)
 have HX := hide hx
 have HID := hide hid
 have HE11 := hide he11
 have HB1 := hide hb1
 have HW1 := hide hW1
 clear hA hg hW he hz hx hid c1 hb1 hq1 hbw hW1 he11 hB
 cases hm : s.most (votesForB 2 (s.round : Int) t) with
 | true =>
  go_enter Tryz.func159, Tryz.ntmps159
  go_wp2_with fail
  rw [← HW1.out]
  refine wp_region_held_drew (S := fun X => Below W1.heap.size W1 X) (by kernel_rfl) ((Below.refl _ W1).drew) (fun hHeld => ?_)
  refine takeN [(0, some 4, pA nb 0), (1, some 5, pA nb 0), (2, some 6, pA nb 0), (3, some 7, pA nb 43), (4, some 8, pA nb 43), (5, some 9, .int .i64 (s.round : Int)), (6, some 10, pA W.heap.size 0), (7, some 11, pA W.heap.size 6), (8, some 12, .string t)] _ _ hHeld (by repeat (first | exact True.intro | (refine tkc rfl rfl (Or.inl ⟨by rfl, fun x h => by have f0 : x.cell? ⟨b1, 0, none⟩ = some (.pointer (some ⟨nb, 0, none⟩)) := Ext.cell C1.out (Ext.of h); have f1 : x.cell? ⟨nb, 43, none⟩ = some (.int .i64 (s.round : Int)) := Ext.cell C43.out (Ext.of h); have f2 : x.cell? ⟨W.heap.size, 6, none⟩ = some (.string t) := Ext.cell C6.out (Ext.of h); go_simp⟩) ?_; simp only [AP]))) ?_
  simp only [takesA, AP, pA]
  refine rdy1 9 (fun K hK => ?_)
  go_simp
  refine (votesFor_any 2 (s.round : Int) t _).mono ?_
  rintro en X2 ⟨g, lb, rfl, eg, hfit, hb2⟩
  have hX2 : Below W1.heap.size W1 X2 := (Below.refl _ W1).drew.trans (hb2.mono (Nat.le_refl _))
  clear hb2
  refine hK.out _ _ hX2 (fun hHeld => ?_)
  clear hK K
  try simp only [AP, AQ]
  refine rdy1 10 (fun K hK => ?_)
  go_simp
  have hmo := most_any nb kb cb g lb (votesForB 2 (s.round : Int) t) V s X2 (HA1.out.below hX2) HX.out eg (hfit s.log) HID.out
  rw [hm] at hmo
  refine hmo.mono ?_
  rintro en X3 ⟨rfl, hb3⟩
  have hX3 : Below W1.heap.size W1 X3 := hX2.trans (hb3.mono hX2.size)
  clear hb3
  refine hK.out _ _ hX3 (fun hHeld => ?_)
  clear hK K
  try simp only [AP, AQ]
  refine takeN [(11, some 15, .bool true), (12, some 16, pA nb 0), (13, some 17, pA nb 0), (14, some 18, pA nb 1), (15, some 19, .agg (regA s.x)), (16, some 20, pA W.heap.size 0), (17, some 21, pA W.heap.size 6), (18, some 22, .string t)] _ _ hHeld (by repeat (first | exact True.intro | ((first | refine tkc rfl rfl (yieldsIf_load_mid (by rfl) 116 _ rfl nb 1 rfl (regL s.x) _ (fun w h => Ext.range HRG.out (Ext.of h)) Tryz.underlying116 rfl (by rw [Tryz.sizeRegistry]; simp [regL])) ?_ | (refine tkc rfl rfl (Or.inl ⟨by rfl, fun x h => ?_⟩) ?_; focus (have f0 : x.cell? ⟨b1, 0, none⟩ = some (.pointer (some ⟨nb, 0, none⟩)) := Ext.cell C1.out (Ext.of h); have f1 : x.cell? ⟨W.heap.size, 6, none⟩ = some (.string t) := Ext.cell C6.out (Ext.of h); go_simp; done))); simp only [AP]))) ?_
  simp only [takesA, AP, pA]
  refine rdy1 19 (fun K hK => ?_)
  go_simp
  have hgo := isGood_any s.x t a11 m X3 HX.out (by omega) ((HG1.out.below HBL.out hX3).sent.cell 11 _ _ rfl HE11.out) (HG1.out.below HBL.out hX3).len
  refine hgo.mono ?_
  rintro en X4 ⟨rfl, hb4⟩
  have hX4 : Below W1.heap.size W1 X4 := hX3.trans (hb4.mono hX3.size)
  clear hb4 hgo
  refine hK.out _ _ hX4 (fun hHeld => ?_)
  clear hK K
  try simp only [AP, AQ]
  refine takeM [(20, some 24, .bool (behindR s.x t).2), (21, some 3, .bool (behindR s.x t).2)] _ _ hHeld ?_
  simp only [takesA, AP]
  refine wpAnyH_done (by kernel_rfl) ?_ _
  go_wp2
  go_ret
  exact ⟨ret_b (by simp only [hm, good_eq, Bool.true_and]), below_to HB1.out hX4⟩
 | false =>
  go_enter Tryz.func159, Tryz.ntmps159
  go_wp2_with fail
  rw [← HW1.out]
  refine wp_region_held_drew (S := fun X => Below W1.heap.size W1 X) (by kernel_rfl) ((Below.refl _ W1).drew) (fun hHeld => ?_)
  refine takeN [(0, some 4, pA nb 0), (1, some 5, pA nb 0), (2, some 6, pA nb 0), (3, some 7, pA nb 43), (4, some 8, pA nb 43), (5, some 9, .int .i64 (s.round : Int)), (6, some 10, pA W.heap.size 0), (7, some 11, pA W.heap.size 6), (8, some 12, .string t)] _ _ hHeld (by repeat (first | exact True.intro | (refine tkc rfl rfl (Or.inl ⟨by rfl, fun x h => by have f0 : x.cell? ⟨b1, 0, none⟩ = some (.pointer (some ⟨nb, 0, none⟩)) := Ext.cell C1.out (Ext.of h); have f1 : x.cell? ⟨nb, 43, none⟩ = some (.int .i64 (s.round : Int)) := Ext.cell C43.out (Ext.of h); have f2 : x.cell? ⟨W.heap.size, 6, none⟩ = some (.string t) := Ext.cell C6.out (Ext.of h); go_simp⟩) ?_; simp only [AP]))) ?_
  simp only [takesA, AP, pA]
  refine rdy1 9 (fun K hK => ?_)
  go_simp
  refine (votesFor_any 2 (s.round : Int) t _).mono ?_
  rintro en X2 ⟨g, lb, rfl, eg, hfit, hb2⟩
  have hX2 : Below W1.heap.size W1 X2 := (Below.refl _ W1).drew.trans (hb2.mono (Nat.le_refl _))
  clear hb2
  refine hK.out _ _ hX2 (fun hHeld => ?_)
  clear hK K
  try simp only [AP, AQ]
  refine rdy1 10 (fun K hK => ?_)
  go_simp
  have hmo := most_any nb kb cb g lb (votesForB 2 (s.round : Int) t) V s X2 (HA1.out.below hX2) HX.out eg (hfit s.log) HID.out
  rw [hm] at hmo
  refine hmo.mono ?_
  rintro en X3 ⟨rfl, hb3⟩
  have hX3 : Below W1.heap.size W1 X3 := hX2.trans (hb3.mono hX2.size)
  clear hb3
  refine hK.out _ _ hX3 (fun hHeld => ?_)
  clear hK K
  try simp only [AP, AQ]
  refine takeN [(11, some 15, .bool false), (12, some 16, undef), (13, some 17, undef), (14, some 18, undef), (15, some 19, undef), (16, some 20, undef), (17, some 21, undef), (18, some 22, undef), (19, some 23, undef), (20, some 24, .bool false), (21, some 3, .bool false)] _ _ hHeld (by repeat (first | exact True.intro | ((first | (refine tkc rfl rfl (Or.inl ⟨by rfl, fun x h => ?_⟩) ?_; focus (go_simp; done)) | refine tkc rfl rfl (Or.inr ⟨by rfl, rfl⟩) ?_); simp only [AP]))) ?_
  simp only [takesA, AP]
  refine wpAnyH_done (by kernel_rfl) ?_ _
  go_wp2
  go_ret
  exact ⟨ret_b (by simp only [hm, Bool.false_and]), below_to HB1.out hX3⟩

set_option linter.unusedSimpArgs false in
set_option linter.unusedVariables false in
set_option maxRecDepth 100000 in
set_option maxHeartbeats 6400000 in
theorem old1_fits (nb kb cb b1 B : Nat) (es : List Addr) (m : Int) (V : NodeV) (s : NodeS) (L : List EntV) (w : World) (hA : NodeAt nb kb cb V s w) (hB : B ≤ w.heap.size) (hg : GlobAt B es m w) (c1 : w.cell? ⟨b1, 0, none⟩ = some (.pointer (some ⟨nb, 0, none⟩))) (hx : Dom s.x) (hid : ∀ e ∈ s.log, 0 ≤ e.m.f ∧ e.m.f < 8) (hz : ∀ e ∈ L, e.m.s.size ≤ 24) :
 FitsAt 158 #[.pointer (some ⟨b1, 0, none⟩)] (fun p => decide (0 ≤ p.m.v) && s.most (votesForB 2 p.m.v p.m.s)) L w := by
 intro W e he hW
 obtain ⟨⟨kd, H, rr, f, v, nl, t⟩, fr, own⟩ := e
 have htz : t.size ≤ 24 := hz _ he
 obtain ⟨a11, he11⟩ := hg.sent.at 11 (by omega)
 show Calls Tryz.prog 158 #[.agg #[.int .i64 kd, .int .i64 H, .int .i64 rr, .int .i64 f, .int .i64 v, .bool nl, .string t, .string fr, .bool own], .pointer (some ⟨b1, 0, none⟩)] W _
 obtain ⟨W1, hW1⟩ : ∃ z, z = W.alloc (.cells #[.int .i64 kd, .int .i64 H, .int .i64 rr, .int .i64 f, .int .i64 v, .bool nl, .string t, .string fr, .bool own] 164) := ⟨_, rfl⟩
 have hb1 : Below W.heap.size W W1 := by rw [hW1]; exact (Below.refl _ W).alloc (Nat.le_refl _) _
 have hq1 : W1.heap[W.heap.size]? = some (.cells #[.int .i64 kd, .int .i64 H, .int .i64 rr, .int .i64 f, .int .i64 v, .bool nl, .string t, .string fr, .bool own] 164 (0, 0)) := by rw [hW1]; exact heap_alloc_new W _
 have hbw : Below w.heap.size w W1 := hW.trans (hb1.mono hW.size)
 have C6 : Hid (W1.cell? ⟨W.heap.size, 6, none⟩ = some (.string t)) := cell_of_row W1 W.heap.size 6 _ _ _ hq1
 have C4 : Hid (W1.cell? ⟨W.heap.size, 4, none⟩ = some (.int .i64 v)) := cell_of_row W1 W.heap.size 4 _ _ _ hq1
 have HA1 := hide (hA.below hbw)
 have HRG := hide (hA.below hbw).reg
 have HG1 := hide (hg.below hB hbw)
 have HBL : Hid (B ≤ W1.heap.size) := Nat.le_trans hB hbw.size
 have C43 : Hid (W1.cell? ⟨nb, 43, none⟩ = some (.int .i64 (s.round : Int))) := (hA.below hbw).cell 43 rfl
 have C1 : Hid (W1.cell? ⟨b1, 0, none⟩ = some (.pointer (some ⟨nb, 0, none⟩))) := Ext.cell c1 (Ext.of hbw)
 have HX := hide hx
 have HID := hide hid
 have HE11 := hide he11
 have HB1 := hide hb1
 have HW1 := hide hW1
 clear hA hg hW he hz hx hid c1 hb1 hq1 hbw hW1 he11 hB
 by_cases hv : 0 ≤ v
 · have qv : decide (0 ≤ v) = true := decide_eq_true hv
   go_enter Tryz.func158, Tryz.ntmps158
   go_wp2_with fail
   rw [← HW1.out]
   refine wp_region_held_drew (S := fun X => Below W1.heap.size W1 X) (by kernel_rfl) ((Below.refl _ W1).drew) (fun hHeld => ?_)
   refine takeN [(0, some 4, pA W.heap.size 0), (1, some 5, pA W.heap.size 4), (2, some 6, .int .i64 v), (3, some 7, .bool true), (4, some 8, .bool true), (5, some 9, pA nb 0), (6, some 10, pA W.heap.size 0), (7, some 11, pA W.heap.size 4), (8, some 12, .int .i64 v), (9, some 13, pA W.heap.size 0), (10, some 14, pA W.heap.size 6), (11, some 15, .string t)] _ _ hHeld (by repeat (first | exact True.intro | (refine tkc rfl rfl (Or.inl ⟨by rfl, fun x h => by have f0 : x.cell? ⟨W.heap.size, 4, none⟩ = some (.int .i64 v) := Ext.cell C4.out (Ext.of h); have f1 : x.cell? ⟨b1, 0, none⟩ = some (.pointer (some ⟨nb, 0, none⟩)) := Ext.cell C1.out (Ext.of h); have f2 : x.cell? ⟨W.heap.size, 6, none⟩ = some (.string t) := Ext.cell C6.out (Ext.of h); go_simp⟩) ?_; simp only [AP]))) ?_
   simp only [takesA, AP, pA]
   refine rdy1 12 (fun K hK => ?_)
   go_simp
   refine (votesFor_any 2 v t _).mono ?_
   rintro en X2 ⟨g, lb, rfl, eg, hfit, hb2⟩
   have hX2 : Below W1.heap.size W1 X2 := (Below.refl _ W1).drew.trans (hb2.mono (Nat.le_refl _))
   clear hb2
   refine hK.out _ _ hX2 (fun hHeld => ?_)
   clear hK K
   try simp only [AP, AQ]
   refine rdy1 13 (fun K hK => ?_)
   go_simp
   have hmo := most_any nb kb cb g lb (votesForB 2 v t) V s X2 (HA1.out.below hX2) HX.out eg (hfit s.log) HID.out
   refine hmo.mono ?_
   rintro en X3 ⟨rfl, hb3⟩
   have hX3 : Below W1.heap.size W1 X3 := hX2.trans (hb3.mono hX2.size)
   clear hb3
   refine hK.out _ _ hX3 (fun hHeld => ?_)
   clear hK K
   try simp only [AP, AQ]
   refine takeM [(14, some 18, .bool (s.most (votesForB 2 v t))), (15, some 3, .bool (s.most (votesForB 2 v t)))] _ _ hHeld ?_
   simp only [takesA, AP]
   refine wpAnyH_done (by kernel_rfl) ?_ _
   go_wp2
   go_ret
   exact ⟨ret_b (by simp only [qv, Bool.true_and]), below_to HB1.out hX3⟩
 · have qv : decide (0 ≤ v) = false := decide_eq_false hv
   have qv2 : v < 0 := by omega
   go_enter Tryz.func158, Tryz.ntmps158
   go_wp2_with fail
   rw [← HW1.out]
   refine wp_region_held_drew (S := fun X => Below W1.heap.size W1 X) (by kernel_rfl) ((Below.refl _ W1).drew) (fun hHeld => ?_)
   refine takeN [(0, some 4, pA W.heap.size 0), (1, some 5, pA W.heap.size 4), (2, some 6, .int .i64 v), (3, some 7, .bool false), (4, some 8, .bool false), (5, some 9, undef), (6, some 10, undef), (7, some 11, undef), (8, some 12, undef), (9, some 13, undef), (10, some 14, undef), (11, some 15, undef), (12, some 16, undef), (13, some 17, undef), (14, some 18, .bool false), (15, some 3, .bool false)] _ _ hHeld (by repeat (first | exact True.intro | ((first | (refine tkc rfl rfl (Or.inl ⟨by rfl, fun x h => ?_⟩) ?_; focus (have f0 : x.cell? ⟨W.heap.size, 4, none⟩ = some (.int .i64 v) := Ext.cell C4.out (Ext.of h); go_simp; done)) | refine tkc rfl rfl (Or.inr ⟨by rfl, rfl⟩) ?_); simp only [AP]))) ?_
   simp only [takesA, AP, pA]
   refine wpAnyH_done (by kernel_rfl) ?_ _
   go_wp2
   go_ret
   exact ⟨ret_b (by simp only [qv, Bool.false_and]), below_to HB1.out ((Below.refl _ W1).drew)⟩

set_option maxRecDepth 100000 in
set_option maxHeartbeats 800000 in
theorem new1_fits (L : List EntV) (w : World) : FitsAt 157 #[] (fun p => decide (p.m.v < 0)) L w := by
 intro W e he hW
 obtain ⟨⟨kd, H, rr, f, v, nl, t⟩, fr, own⟩ := e
 show Calls Tryz.prog 157 #[.agg #[.int .i64 kd, .int .i64 H, .int .i64 rr, .int .i64 f, .int .i64 v, .bool nl, .string t, .string fr, .bool own]] W _
 have hc : (W.alloc (.cells #[.int .i64 kd, .int .i64 H, .int .i64 rr, .int .i64 f, .int .i64 v, .bool nl, .string t, .string fr, .bool own] 164)).cell? ⟨W.heap.size, 4, none⟩ = some (.int .i64 v) := cell_of_row _ W.heap.size 4 _ _ _ (heap_alloc_new W _)
 clear he hW
 go_enter Tryz.func157, Tryz.ntmps157
 go_wp2
 go_ret
 exact ⟨rfl, (Below.refl _ W).alloc (Nat.le_refl _) _⟩

set_option maxRecDepth 100000 in
set_option maxHeartbeats 800000 in
theorem follow1_fits (b1 : Nat) (r : Int) (L : List EntV) (w : World) (c1 : w.cell? ⟨b1, 0, none⟩ = some (.int .i64 r)) : FitsAt 155 #[.pointer (some ⟨b1, 0, none⟩)] (fun p => decide (p.m.r = r)) L w := by
 intro W e he hW
 obtain ⟨⟨kd, H, rr, f, v, nl, t⟩, fr, own⟩ := e
 show Calls Tryz.prog 155 #[.agg #[.int .i64 kd, .int .i64 H, .int .i64 rr, .int .i64 f, .int .i64 v, .bool nl, .string t, .string fr, .bool own], .pointer (some ⟨b1, 0, none⟩)] W _
 have hc : (W.alloc (.cells #[.int .i64 kd, .int .i64 H, .int .i64 rr, .int .i64 f, .int .i64 v, .bool nl, .string t, .string fr, .bool own] 164)).cell? ⟨W.heap.size, 2, none⟩ = some (.int .i64 rr) := cell_of_row _ W.heap.size 2 _ _ _ (heap_alloc_new W _)
 have hc1 : (W.alloc (.cells #[.int .i64 kd, .int .i64 H, .int .i64 rr, .int .i64 f, .int .i64 v, .bool nl, .string t, .string fr, .bool own] 164)).cell? ⟨b1, 0, none⟩ = some (.int .i64 r) := cell?_alloc_old _ (Ext.cell c1 (Ext.of hW))
 clear he hW c1
 go_enter Tryz.func155, Tryz.ntmps155
 go_wp2
 go_ret
 exact ⟨ret_b (by first | rfl | simp), (Below.refl _ W).alloc (Nat.le_refl _) _⟩

def RetB (Post : Bool → World → Prop) (e : Ending) (w' : World) : Prop := ∃ b, e = .returned (.bool b) ∧ Post b w'
def NodeS.decAt (s : NodeS) (r : Nat) : Option EntV := propF s.log (r : Int) fun p => s.most (votesForB 3 (r : Int) p.m.s) && s.good p.m.s

set_option linter.unusedSimpArgs false in
set_option linter.unusedVariables false in
set_option maxRecDepth 100000 in
set_option maxHeartbeats 6400000 in
theorem decide_raw {B : Nat} {es : List Addr} {m : Int} {nb kb cb N : Nat} {s : NodeS} {V : NodeV} {w : World} (Post : Bool → World → Prop) (hA : NodeAt nb kb cb V s w) (hB : B ≤ w.heap.size) (hg : GlobAt B es m w) (ok : StOk N s)
 (hkeep : ∀ (p : EntV) (r : Nat), r ≤ 20 → (∀ q, q < r → s.decAt q = none) → s.decAt r = some p → ∀ W, Below w.heap.size w W → Calls Tryz.prog 153 #[.pointer (some ⟨nb, 0, none⟩), .agg p.cells] W (RetB Post))
 (hno : (∀ q, q ≤ 20 → s.decAt q = none) → ∀ W, Below w.heap.size w W → Post false W) :
 Calls Tryz.prog 108 #[.pointer (some ⟨nb, 0, none⟩)] w (RetB Post) := by
 have hmf : ∀ (fn : Fn) (first cap : Array Value) (w : World), (Instr.makeFunc fn first cap).run Tryz.prog w = .ok (.func fn first cap) w := fun _ _ _ _ => rfl
 obtain ⟨p, c, -, c37, hm, hE⟩ := hA.logAt
 have HA := hide hA
 have HG := hide hg
 have HB0 := hide hB
 have HOK := hide ok
 have HKEEP := hide hkeep
 have HNOP := hide hno
 have HE := hide hE
 have HM := hide hm
 have C37W := hide c37
 have C0 : Hid ((w.alloc (.cells #[.pointer (some ⟨nb, 0, none⟩)] 26)).cell? ⟨w.heap.size, 0, none⟩ = some (.pointer (some ⟨nb, 0, none⟩))) := cell_of_row _ w.heap.size 0 _ _ _ (heap_alloc_new w _)
 clear hA hg hB ok hkeep hno hE hm c37
 go_enter Tryz.func108, Tryz.ntmps108
 go_wp2
 go_loopw [3, 4, 5, 6] (fun _ _ _ i wr => ∃ j : Nat, j ≤ 21 ∧ i = .int .i64 j ∧ (∀ r, r < j → s.decAt r = none) ∧ wr.cell? ⟨w.heap.size, 0, none⟩ = some (.pointer (some ⟨nb, 0, none⟩)) ∧ Below w.heap.size w wr) (fun _ _ _ i _ => 21 - (intOf i).toNat)
 case atStart => exact ⟨0, Nat.zero_le _, rfl, fun r hr => absurd hr (Nat.not_lt_zero r), C0.out, (Below.refl _ w).alloc (Nat.le_refl _) _⟩
 case round =>
  obtain ⟨j, hj, rfl, hnone, hcn, hb⟩ := hrel
  have HBR := hide hb
  have HNO := hide hnone
  have HCN := hide hcn
  clear hb hnone hcn C0
  by_cases hend : j = 21
  · have hge : ¬ (j : Int) < 21 := by omega
    have HPO := hide (HNOP.out (fun q hq => HNO.out q (by omega)) wr HBR.out)
    clear hend
    go_wp2
    go_ret
    exact ⟨false, rfl, HPO.out⟩
  · have hlt2 : (j : Int) < 21 := by omega
    obtain ⟨w1, hw1⟩ : ∃ z, z = wr.alloc (.cells #[.int .i64 (j : Int)] 3) := ⟨_, rfl⟩
    have hb1 : Below wr.heap.size wr w1 := by rw [hw1]; exact (Below.refl _ wr).alloc (Nat.le_refl _) _
    have hq1 : w1.heap[wr.heap.size]? = some (.cells #[.int .i64 (j : Int)] 3 (0, 0)) := by rw [hw1]; exact heap_alloc_new wr _
    have hbw : Below w.heap.size w w1 := HBR.out.trans (hb1.mono HBR.out.size)
    have C1 : Hid (w1.cell? ⟨w.heap.size, 0, none⟩ = some (.pointer (some ⟨nb, 0, none⟩))) := Ext.cell HCN.out (Ext.of hb1)
    have C2 : Hid (w1.cell? ⟨wr.heap.size, 0, none⟩ = some (.int .i64 (j : Int))) := cell_of_row w1 wr.heap.size 0 _ _ _ hq1
    have C37 : Hid (w1.cell? ⟨nb, 37, none⟩ = some (.slice p s.log.length c)) := Ext.cell C37W.out (Ext.of hbw)
    have HB1 := hide hbw
    have HPROP : Hid (∀ W, Below w1.heap.size w1 W → Calls Tryz.prog 148 #[.slice p s.log.length c, .int .i64 (j : Int), .func (.func 149) #[] #[.pointer (some ⟨w.heap.size, 0, none⟩), .pointer (some ⟨wr.heap.size, 0, none⟩)]] W fun e w' => e = .returned (propR (s.decAt j)) ∧ Below W.heap.size W w') := fun W hW => by
     have hWw := hbw.trans (hW.mono hbw.size)
     exact proposal_any 149 _ _ s.log (j : Int) p c W (enters_of Tryz.func149 (by decide) rfl) (HE.out.ext (Ext.of hWw)) HM.out (decide1_fits j wr.heap.size nb kb cb w.heap.size B es m V s _ W (HA.out.below hWw) (Nat.le_trans HB0.out hWw.size) (HG.out.below HB0.out hWw) (Ext.cell C1.out (Ext.of hW)) HOK.out.dom (fun e he => ⟨(HOK.out.ids e he).f0, (HOK.out.ids e he).f8⟩) (fun e he => (HOK.out.ids e (List.mem_filter.1 he).1).z) (Ext.cell C2.out (Ext.of hW)))
    have HPROPB := HPROP
    have HW1 := hide hw1
    clear hend hb1 hq1 hbw hw1
    cases hx : s.decAt j with
    | none =>
     have HPF := hide hx
     rw [hx] at HPROP HPROPB
     obtain ⟨x, hxe⟩ : ∃ x : Option EntV, x = none := ⟨none, rfl⟩
     rw [← hxe] at HPROP HPROPB
     have hsm : x.isSome = false := by rw [hxe]; rfl
     clear hx hxe
     go_wp2_with fail
     rw [← HW1.out]
     refine wp_region_held_drew (S := fun X => Below w1.heap.size w1 X) (by kernel_rfl) ((Below.refl _ w1).drew) (fun hHeld => ?_)
     refine takeN [(0, some 10, pA nb 0), (1, some 11, pA nb 0), (2, some 12, pA nb 37), (3, some 13, .slice p s.log.length c), (4, some 14, .int .i64 (j : Int)), (5, some 15, .func (.func 149) #[] #[.pointer (some ⟨w.heap.size, 0, none⟩), .pointer (some ⟨wr.heap.size, 0, none⟩)])] _ _ hHeld (by repeat (first | exact True.intro | (refine tkc rfl rfl (Or.inl ⟨by rfl, fun x h => by have f0 : x.cell? ⟨w.heap.size, 0, none⟩ = some (.pointer (some ⟨nb, 0, none⟩)) := Ext.cell C1.out (Ext.of h); have f1 : x.cell? ⟨nb, 37, none⟩ = some (.slice p s.log.length c) := Ext.cell C37.out (Ext.of h); have f2 : x.cell? ⟨wr.heap.size, 0, none⟩ = some (.int .i64 (j : Int)) := Ext.cell C2.out (Ext.of h); go_simp⟩) ?_; simp only [AP]))) ?_
     simp only [takesA, AP, pA]
     refine wpAnyH_ready (rs := [6, 10]) (by kernel_rfl) (by simp) ?_
     refine AllReadyH.cons rfl (fun K hK => ?_) (AllReadyH.cons rfl (fun K hK => ?_) AllReadyH.nil)
     focus
      go_simp
      refine (HPROP.out _ (by first | exact hHeld | exact (Below.refl _ w1).drew)).mono ?_
      rintro en X2 ⟨rfl, hb2⟩
      have hX2 : Below w1.heap.size w1 X2 := (Below.refl _ w1).drew.trans (hb2.mono (Nat.le_refl _))
      clear hb2
      refine hK.out _ _ hX2 (fun hHeld => ?_)
      clear hK K
      try simp only [AP, AQ]
      refine takeN [(7, some 9, propR x), (8, some 17, .agg (x.getD ent0).cells), (9, some 18, .bool false)] _ _ hHeld (by repeat (first | exact True.intro | ((first | (refine tkc rfl rfl (Or.inl ⟨by rfl, fun x h => ?_⟩) ?_; focus (unfold propR; go_simp; done)) | (refine tkc rfl rfl (Or.inl ⟨by rfl, fun x h => ?_⟩) ?_; focus (go_simp; done))); simp only [AP]))) ?_
      simp only [takesA, AP]
      refine rdy1 10 (fun K hK => ?_)
      go_simp
      obtain ⟨X3, hX3e⟩ : ∃ z, z = X2.alloc (.cells #[.int .i64 0, .int .i64 0, .int .i64 0, .int .i64 0, .int .i64 0, .bool false, .string ⟨#[]⟩, .string ⟨#[]⟩, .bool false] 164) := ⟨_, rfl⟩
      have hb3 : Below X2.heap.size X2 X3 := by rw [hX3e]; exact (Below.refl _ X2).alloc (Nat.le_refl _) _
      have hq3 : X3.heap[X2.heap.size]? = some (.cells #[.int .i64 0, .int .i64 0, .int .i64 0, .int .i64 0, .int .i64 0, .bool false, .string ⟨#[]⟩, .string ⟨#[]⟩, .bool false] 164 (0, 0)) := by rw [hX3e]; exact heap_alloc_new X2 _
      rw [← hX3e]
      have hX3 : Below w1.heap.size w1 X3 := hX2.trans (hb3.mono hX2.size)
      refine hK.out _ _ hX3 (fun hHeld => ?_)
      clear hK K hX3e
      try simp only [AP, AQ]
      refine rdy1 11 (fun K hK => ?_)
      rw [if_pos (by rfl)]
      refine wp_store_midG 164 _ _ rfl X2.heap.size 0 ((x.getD ent0).cells) rfl rfl 164 #[.int .i64 0, .int .i64 0, .int .i64 0, .int .i64 0, .int .i64 0, .bool false, .string ⟨#[]⟩, .string ⟨#[]⟩, .bool false] hq3 (by simp [EntV.cells]) (by simp [EntV.cells, Value.oneCell']) (by rw [Tryz.sizeEnt]; simp [EntV.cells]) ?_
      intro X hqX hoX
      have hqX2 : X.heap[X2.heap.size]? = some (.cells ((x.getD ent0).cells) 164 (0, 0)) := hqX
      have hX : Below w1.heap.size w1 X := hX3.trans (hoX.below hX2.size)
      refine hK.out _ _ hX (fun hHeld => ?_)
      clear hK K
      try simp only [AP, AQ]
      refine takeM [(12, some 5, .bool false)] _ _ hHeld ?_
      simp only [takesA, AP]
      refine wpAnyH_done (by kernel_rfl) ?_ _
      obtain ⟨pb, hpb⟩ : ∃ z, z = X2.heap.size := ⟨_, rfl⟩
      rw [← hpb] at hqX2
      rw [← hpb]
      have hpw : w1.heap.size ≤ pb := by rw [hpb]; exact hX2.size
      clear hpb hqX hoX hb3 hq3 hX3 hX2
     rotate_left
     focus
      go_simp
      obtain ⟨X3, hX3e⟩ : ∃ z, z = (w1.alloc (.cells #[.int .i64 0, .int .i64 0, .int .i64 0, .int .i64 0, .int .i64 0, .bool false, .string ⟨#[]⟩, .string ⟨#[]⟩, .bool false] 164)).drew := ⟨_, rfl⟩
      have hX3 : Below w1.heap.size w1 X3 := by rw [hX3e]; exact ((Below.refl _ w1).alloc (Nat.le_refl _) _).drew
      have hq3 : X3.heap[w1.heap.size]? = some (.cells #[.int .i64 0, .int .i64 0, .int .i64 0, .int .i64 0, .int .i64 0, .bool false, .string ⟨#[]⟩, .string ⟨#[]⟩, .bool false] 164 (0, 0)) := by rw [hX3e]; exact heap_alloc_new w1 _
      rw [← hX3e]
      refine hK.out _ _ hX3 (fun hHeld => ?_)
      clear hK K hX3e
      try simp only [AP, AQ]
      refine rdy1 6 (fun K hK => ?_)
      go_simp
      refine (HPROPB.out _ (by first | exact hHeld | exact (Below.refl _ w1).drew)).mono ?_
      rintro en X2 ⟨rfl, hb2⟩
      have hX2 : Below w1.heap.size w1 X2 := hX3.trans (hb2.mono hX3.size)
      have hq2 := blk hq3 hb2
      refine hK.out _ _ hX2 (fun hHeld => ?_)
      clear hK K
      try simp only [AP, AQ]
      refine takeN [(7, some 9, propR x), (8, some 17, .agg (x.getD ent0).cells), (9, some 18, .bool false)] _ _ hHeld (by repeat (first | exact True.intro | ((first | (refine tkc rfl rfl (Or.inl ⟨by rfl, fun x h => ?_⟩) ?_; focus (unfold propR; go_simp; done)) | (refine tkc rfl rfl (Or.inl ⟨by rfl, fun x h => ?_⟩) ?_; focus (go_simp; done))); simp only [AP]))) ?_
      simp only [takesA, AP]
      refine rdy1 11 (fun K hK => ?_)
      rw [if_pos (by rfl)]
      refine wp_store_midG 164 _ _ rfl w1.heap.size 0 ((x.getD ent0).cells) rfl rfl 164 #[.int .i64 0, .int .i64 0, .int .i64 0, .int .i64 0, .int .i64 0, .bool false, .string ⟨#[]⟩, .string ⟨#[]⟩, .bool false] hq2 (by simp [EntV.cells]) (by simp [EntV.cells, Value.oneCell']) (by rw [Tryz.sizeEnt]; simp [EntV.cells]) ?_
      intro X hqX hoX
      have hqX2 : X.heap[w1.heap.size]? = some (.cells ((x.getD ent0).cells) 164 (0, 0)) := hqX
      have hX : Below w1.heap.size w1 X := hX2.trans (hoX.below (Nat.le_refl _))
      refine hK.out _ _ hX (fun hHeld => ?_)
      clear hK K
      try simp only [AP, AQ]
      refine takeM [(12, some 5, .bool false)] _ _ hHeld ?_
      simp only [takesA, AP]
      refine wpAnyH_done (by kernel_rfl) ?_ _
      obtain ⟨pb, hpb⟩ : ∃ z, z = w1.heap.size := ⟨_, rfl⟩
      rw [← hpb] at hqX2
      rw [← hpb]
      have hpw : w1.heap.size ≤ pb := by rw [hpb]; exact Nat.le_refl _
      clear hpb hqX hoX hb2 hq2 hq3 hX3 hX2
     rotate_left
     all_goals
      have HXB : Hid (Below w.heap.size w X) := HB1.out.trans (hX.mono HB1.out.size)
      have hcX : X.cell? ⟨w.heap.size, 0, none⟩ = some (.pointer (some ⟨nb, 0, none⟩)) := Ext.cell C1.out (Ext.of hX)
      have HCX := hide hcX
      clear hX hqX2 hpw hcX
      go_wp2
      go_roundw
      case rel =>
       refine ⟨j + 1, by omega, by go_num, fun r hr => ?_, HCX.out, HXB.out⟩
       rcases Nat.lt_or_ge r j with h1 | h1
       · exact HNO.out r h1
       · have e : r = j := by omega
         rw [e]
         exact HPF.out
      case measure => simp [intOf]; omega
    | some pv =>
     have HPF := hide hx
     rw [hx] at HPROP HPROPB
     obtain ⟨x, hxe⟩ : ∃ x : Option EntV, x = some pv := ⟨some pv, rfl⟩
     rw [← hxe] at HPROP HPROPB
     have hsm : x.isSome = true := by rw [hxe]; rfl
     have HXE := hide hxe
     clear hx hxe
     go_wp2_with fail
     rw [← HW1.out]
     refine wp_region_held_drew (S := fun X => Below w1.heap.size w1 X) (by kernel_rfl) ((Below.refl _ w1).drew) (fun hHeld => ?_)
     refine takeN [(0, some 10, pA nb 0), (1, some 11, pA nb 0), (2, some 12, pA nb 37), (3, some 13, .slice p s.log.length c), (4, some 14, .int .i64 (j : Int)), (5, some 15, .func (.func 149) #[] #[.pointer (some ⟨w.heap.size, 0, none⟩), .pointer (some ⟨wr.heap.size, 0, none⟩)])] _ _ hHeld (by repeat (first | exact True.intro | (refine tkc rfl rfl (Or.inl ⟨by rfl, fun x h => by have f0 : x.cell? ⟨w.heap.size, 0, none⟩ = some (.pointer (some ⟨nb, 0, none⟩)) := Ext.cell C1.out (Ext.of h); have f1 : x.cell? ⟨nb, 37, none⟩ = some (.slice p s.log.length c) := Ext.cell C37.out (Ext.of h); have f2 : x.cell? ⟨wr.heap.size, 0, none⟩ = some (.int .i64 (j : Int)) := Ext.cell C2.out (Ext.of h); go_simp⟩) ?_; simp only [AP]))) ?_
     simp only [takesA, AP, pA]
     refine wpAnyH_ready (rs := [6, 10]) (by kernel_rfl) (by simp) ?_
     refine AllReadyH.cons rfl (fun K hK => ?_) (AllReadyH.cons rfl (fun K hK => ?_) AllReadyH.nil)
     focus
      go_simp
      refine (HPROP.out _ (by first | exact hHeld | exact (Below.refl _ w1).drew)).mono ?_
      rintro en X2 ⟨rfl, hb2⟩
      have hX2 : Below w1.heap.size w1 X2 := (Below.refl _ w1).drew.trans (hb2.mono (Nat.le_refl _))
      clear hb2
      refine hK.out _ _ hX2 (fun hHeld => ?_)
      clear hK K
      try simp only [AP, AQ]
      refine takeN [(7, some 9, propR x), (8, some 17, .agg (x.getD ent0).cells), (9, some 18, .bool true)] _ _ hHeld (by repeat (first | exact True.intro | ((first | (refine tkc rfl rfl (Or.inl ⟨by rfl, fun x h => ?_⟩) ?_; focus (unfold propR; go_simp; done)) | (refine tkc rfl rfl (Or.inl ⟨by rfl, fun x h => ?_⟩) ?_; focus (go_simp; done))); simp only [AP]))) ?_
      simp only [takesA, AP]
      refine rdy1 10 (fun K hK => ?_)
      go_simp
      obtain ⟨X3, hX3e⟩ : ∃ z, z = X2.alloc (.cells #[.int .i64 0, .int .i64 0, .int .i64 0, .int .i64 0, .int .i64 0, .bool false, .string ⟨#[]⟩, .string ⟨#[]⟩, .bool false] 164) := ⟨_, rfl⟩
      have hb3 : Below X2.heap.size X2 X3 := by rw [hX3e]; exact (Below.refl _ X2).alloc (Nat.le_refl _) _
      have hq3 : X3.heap[X2.heap.size]? = some (.cells #[.int .i64 0, .int .i64 0, .int .i64 0, .int .i64 0, .int .i64 0, .bool false, .string ⟨#[]⟩, .string ⟨#[]⟩, .bool false] 164 (0, 0)) := by rw [hX3e]; exact heap_alloc_new X2 _
      rw [← hX3e]
      have hX3 : Below w1.heap.size w1 X3 := hX2.trans (hb3.mono hX2.size)
      refine hK.out _ _ hX3 (fun hHeld => ?_)
      clear hK K hX3e
      try simp only [AP, AQ]
      refine rdy1 11 (fun K hK => ?_)
      rw [if_pos (by rfl)]
      refine wp_store_midG 164 _ _ rfl X2.heap.size 0 ((x.getD ent0).cells) rfl rfl 164 #[.int .i64 0, .int .i64 0, .int .i64 0, .int .i64 0, .int .i64 0, .bool false, .string ⟨#[]⟩, .string ⟨#[]⟩, .bool false] hq3 (by simp [EntV.cells]) (by simp [EntV.cells, Value.oneCell']) (by rw [Tryz.sizeEnt]; simp [EntV.cells]) ?_
      intro X hqX hoX
      have hqX2 : X.heap[X2.heap.size]? = some (.cells ((x.getD ent0).cells) 164 (0, 0)) := hqX
      have hX : Below w1.heap.size w1 X := hX3.trans (hoX.below hX2.size)
      refine hK.out _ _ hX (fun hHeld => ?_)
      clear hK K
      try simp only [AP, AQ]
      refine takeM [(12, some 5, .bool true)] _ _ hHeld ?_
      simp only [takesA, AP]
      refine wpAnyH_done (by kernel_rfl) ?_ _
      obtain ⟨pb, hpb⟩ : ∃ z, z = X2.heap.size := ⟨_, rfl⟩
      rw [← hpb] at hqX2
      rw [← hpb]
      have hpw : w1.heap.size ≤ pb := by rw [hpb]; exact hX2.size
      clear hpb hqX hoX hb3 hq3 hX3 hX2
     rotate_left
     focus
      go_simp
      obtain ⟨X3, hX3e⟩ : ∃ z, z = (w1.alloc (.cells #[.int .i64 0, .int .i64 0, .int .i64 0, .int .i64 0, .int .i64 0, .bool false, .string ⟨#[]⟩, .string ⟨#[]⟩, .bool false] 164)).drew := ⟨_, rfl⟩
      have hX3 : Below w1.heap.size w1 X3 := by rw [hX3e]; exact ((Below.refl _ w1).alloc (Nat.le_refl _) _).drew
      have hq3 : X3.heap[w1.heap.size]? = some (.cells #[.int .i64 0, .int .i64 0, .int .i64 0, .int .i64 0, .int .i64 0, .bool false, .string ⟨#[]⟩, .string ⟨#[]⟩, .bool false] 164 (0, 0)) := by rw [hX3e]; exact heap_alloc_new w1 _
      rw [← hX3e]
      refine hK.out _ _ hX3 (fun hHeld => ?_)
      clear hK K hX3e
      try simp only [AP, AQ]
      refine rdy1 6 (fun K hK => ?_)
      go_simp
      refine (HPROPB.out _ (by first | exact hHeld | exact (Below.refl _ w1).drew)).mono ?_
      rintro en X2 ⟨rfl, hb2⟩
      have hX2 : Below w1.heap.size w1 X2 := hX3.trans (hb2.mono hX3.size)
      have hq2 := blk hq3 hb2
      refine hK.out _ _ hX2 (fun hHeld => ?_)
      clear hK K
      try simp only [AP, AQ]
      refine takeN [(7, some 9, propR x), (8, some 17, .agg (x.getD ent0).cells), (9, some 18, .bool true)] _ _ hHeld (by repeat (first | exact True.intro | ((first | (refine tkc rfl rfl (Or.inl ⟨by rfl, fun x h => ?_⟩) ?_; focus (unfold propR; go_simp; done)) | (refine tkc rfl rfl (Or.inl ⟨by rfl, fun x h => ?_⟩) ?_; focus (go_simp; done))); simp only [AP]))) ?_
      simp only [takesA, AP]
      refine rdy1 11 (fun K hK => ?_)
      rw [if_pos (by rfl)]
      refine wp_store_midG 164 _ _ rfl w1.heap.size 0 ((x.getD ent0).cells) rfl rfl 164 #[.int .i64 0, .int .i64 0, .int .i64 0, .int .i64 0, .int .i64 0, .bool false, .string ⟨#[]⟩, .string ⟨#[]⟩, .bool false] hq2 (by simp [EntV.cells]) (by simp [EntV.cells, Value.oneCell']) (by rw [Tryz.sizeEnt]; simp [EntV.cells]) ?_
      intro X hqX hoX
      have hqX2 : X.heap[w1.heap.size]? = some (.cells ((x.getD ent0).cells) 164 (0, 0)) := hqX
      have hX : Below w1.heap.size w1 X := hX2.trans (hoX.below (Nat.le_refl _))
      refine hK.out _ _ hX (fun hHeld => ?_)
      clear hK K
      try simp only [AP, AQ]
      refine takeM [(12, some 5, .bool true)] _ _ hHeld ?_
      simp only [takesA, AP]
      refine wpAnyH_done (by kernel_rfl) ?_ _
      obtain ⟨pb, hpb⟩ : ∃ z, z = w1.heap.size := ⟨_, rfl⟩
      rw [← hpb] at hqX2
      rw [← hpb]
      have hpw : w1.heap.size ≤ pb := by rw [hpb]; exact Nat.le_refl _
      clear hpb hqX hoX hb2 hq2 hq3 hX3 hX2
     rotate_left
     all_goals
      rw [HXE.out] at hqX2
      have HXB : Hid (Below w.heap.size w X) := HB1.out.trans (hX.mono HB1.out.size)
      have hcX : X.cell? ⟨w.heap.size, 0, none⟩ = some (.pointer (some ⟨nb, 0, none⟩)) := Ext.cell C1.out (Ext.of hX)
      have HKP := hide (HKEEP.out pv j (by omega) HNO.out HPF.out X HXB.out)
      have HQX := hide hqX2
      clear hX hpw hqX2
      go_wp2_with (first | (refine wpList_load_row rfl 164 _ rfl pb rfl 164 ((some pv).getD ent0).cells (0, 0) _ HQX.out Tryz.underlying164 rfl (by rw [Tryz.sizeEnt]; simp [EntV.cells]) ?_) | fail)
      refine HKP.out.mono ?_
      rintro en Y ⟨bo, rfl, hpost⟩
      have HPO := hide hpost
      clear hpost HKP
      go_wp2
      go_ret
      exact ⟨bo, rfl, HPO.out⟩

def RuleP (B : Nat) (es : List Addr) (m : Int) (F R : Nat → Prop) (nb kb rb cb n i : Nat) (r : Bool × NodeS) (w : World) (e : Ending) (w' : World) : Prop :=
 e = .returned (.bool r.1) ∧ ∃ F' R', NodeW B es m F' R' nb kb rb cb n i r.2 w' ∧ Goes F R w F' R' w'

def NodeS.atStep (s : NodeS) (st : Nat) : NodeS := { s with step := st }

theorem NodeW.setStep {B : Nat} {es : List Addr} {m : Int} {F R : Nat → Prop} {nb kb rb cb n i : Nat} {s : NodeS} {w : World} (h : NodeW B es m F R nb kb rb cb n i s w) (st : Nat) :
 NodeW B es m F R nb kb rb cb n i (s.atStep st) (w.setCell ⟨nb, 44, none⟩ (.int .i64 (st : Int))) ∧ Goes F R w F R (w.setCell ⟨nb, 44, none⟩ (.int .i64 (st : Int))) := by
 obtain ⟨V, hA, hf⟩ := h.node
 exact h.cellAt (s' := s.atStep st) hA hf (setCell_row hA.blk 44 _) (only_setCell _ _ _ _) rfl rfl rfl rfl rfl rfl rfl

theorem NodeW.stepAt {B : Nat} {es : List Addr} {m : Int} {F R : Nat → Prop} {nb kb rb cb n i : Nat} {s : NodeS} {w : World} (h : NodeW B es m F R nb kb rb cb n i s w) : w.cell? ⟨nb, 44, none⟩ = some (.int .i64 (s.step : Int)) ∧ w.frozen? ⟨nb, 44, none⟩ = false := by
 obtain ⟨V, hA, hf⟩ := h.node
 exact ⟨hA.cell 44 rfl, hA.frozen 44⟩

def NodeS.nothing (s : NodeS) (i : Nat) (k : Int) (st : Nat) : NodeS := (s.sendS i k 0 true ⟨#[]⟩).atStep st

set_option maxRecDepth 100000 in
set_option maxHeartbeats 1600000 in
theorem prevoteNothing_any {B : Nat} {es : List Addr} {m : Int} {F R : Nat → Prop} {nb kb rb cb n i N : Nat} {s : NodeS} {w : World} (h : NodeW B es m F R nb kb rb cb n i s w) (ok : StOk N s) (hN : N ≤ 10000000) (hsg : (s.sg i).length ≤ 1000000000000) :
 Calls Tryz.prog 131 #[.pointer (some ⟨nb, 0, none⟩)] w fun en w' => en = .returned (.tuple #[]) ∧ ∃ F' R', NodeW B es m F' R' nb kb rb cb n i (s.nothing i 2 2) w' ∧ Goes F R w F' R' w' := by
 obtain ⟨a1, he1⟩ := h.glob.sent.at 1 (by omega)
 have HSE := hide (send_any 2 0 0 0 0 true ⟨#[]⟩ a1 h he1 (by have := ok.log; omega) (by have := ok.ahead; omega) (by omega) (by decide))
 clear h ok hsg he1
 go_enter Tryz.func131, Tryz.ntmps131
 go_wp2_with fail
 refine HSE.out.mono ?_
 rintro e w4 ⟨rfl, F4, R4, hW4, hG4⟩
 obtain ⟨c44, f44⟩ := hW4.stepAt
 obtain ⟨hW5, hG5⟩ := hW4.setStep 2
 have HEND : Hid (∃ F' R', NodeW B es m F' R' nb kb rb cb n i (s.nothing i 2 2) (w4.setCell ⟨nb, 44, none⟩ (.int .i64 2)) ∧ Goes F R w F' R' (w4.setCell ⟨nb, 44, none⟩ (.int .i64 2))) := ⟨F4, R4, hW5, hG4.trans hG5⟩
 clear hW4 hG4 hW5 hG5 HSE
 go_wp2
 first | exact bodyPost_end (v := .tuple #[]) (by simp [results, Tryz.results131]) rfl ⟨rfl, HEND.out⟩ | exact bodyPost_ret (v := .tuple #[]) (by simp [results, Tryz.results131]) rfl ⟨rfl, HEND.out⟩

set_option maxRecDepth 100000 in
set_option maxHeartbeats 1600000 in
theorem precommitNothing_any {B : Nat} {es : List Addr} {m : Int} {F R : Nat → Prop} {nb kb rb cb n i N : Nat} {s : NodeS} {w : World} (h : NodeW B es m F R nb kb rb cb n i s w) (ok : StOk N s) (hN : N ≤ 10000000) (hsg : (s.sg i).length ≤ 1000000000000) :
 Calls Tryz.prog 132 #[.pointer (some ⟨nb, 0, none⟩)] w fun en w' => en = .returned (.tuple #[]) ∧ ∃ F' R', NodeW B es m F' R' nb kb rb cb n i (s.nothing i 3 3) w' ∧ Goes F R w F' R' w' := by
 obtain ⟨a1, he1⟩ := h.glob.sent.at 1 (by omega)
 have HSE := hide (send_any 3 0 0 0 0 true ⟨#[]⟩ a1 h he1 (by have := ok.log; omega) (by have := ok.ahead; omega) (by omega) (by decide))
 clear h ok hsg he1
 go_enter Tryz.func132, Tryz.ntmps132
 go_wp2_with fail
 refine HSE.out.mono ?_
 rintro e w4 ⟨rfl, F4, R4, hW4, hG4⟩
 obtain ⟨c44, f44⟩ := hW4.stepAt
 obtain ⟨hW5, hG5⟩ := hW4.setStep 3
 have HEND : Hid (∃ F' R', NodeW B es m F' R' nb kb rb cb n i (s.nothing i 3 3) (w4.setCell ⟨nb, 44, none⟩ (.int .i64 3)) ∧ Goes F R w F' R' (w4.setCell ⟨nb, 44, none⟩ (.int .i64 3))) := ⟨F4, R4, hW5, hG4.trans hG5⟩
 clear hW4 hG4 hW5 hG5 HSE
 go_wp2
 first | exact bodyPost_end (v := .tuple #[]) (by simp [results, Tryz.results132]) rfl ⟨rfl, HEND.out⟩ | exact bodyPost_ret (v := .tuple #[]) (by simp [results, Tryz.results132]) rfl ⟨rfl, HEND.out⟩

end Go.Proofs.YtcfjhbcpjpgodaaGreatDoor
