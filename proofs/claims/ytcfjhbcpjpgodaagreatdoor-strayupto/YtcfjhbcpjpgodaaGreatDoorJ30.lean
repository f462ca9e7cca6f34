/- Proved here: what wire.Decode answers at a text that opens with the kind 1 and whose sixth byte tells its length. -/
import Derived.Test.YtcfjhbcpjpgodaaGreatDoorJ29
import Derived.Test.YtcfjhbcpjpgodaaGreatDoorTakeL
namespace Go.Proofs.YtcfjhbcpjpgodaaGreatDoor
open Go.RowKit

set_option maxRecDepth 100000 in
set_option maxHeartbeats 4000000 in
theorem wireDecode_a (t : ByteArray) (k1 k2 k3 k4 k5 : Int) (s : ByteArray) (b : Addr) (w : World) (hp : Parts t 1 k1 k2 k3 k4 k5 s) (h5 : (s.size : Int) = k5) (hb : w.cell? ⟨2, 0, none⟩ = some (.iface 294 (.pointer (some b)))) :
 Calls Tryz.prog 102 #[.string t] w fun e w' => e = .returned (.tuple #[decM 1 k1 k2 k3 k4 k5 s, formE b (decB 1 k1 k2 k3 k4 k5 s.size)]) ∧ Below w.heap.size w w' := by
 have a0 := hp.at0
 have a1 := hp.at1
 have a2 := hp.at2
 have a3 := hp.at3
 have a4 := hp.at4
 have a5 := hp.at5
 have ar := hp.rest
 have b0 := hp.b0
 have b1 := hp.b1
 have b2 := hp.b2
 have b3 := hp.b3
 have b4 := hp.b4
 have b5 := hp.b5
 have EV : Hid (vOf 1 k4 = k4 - 1) := by unfold Hid vOf; rw [if_pos rfl]
 have EN : Hid (nlOf 1 k4 = false) := by unfold Hid nlOf; rw [if_pos rfl]
 have h6 : ¬ (t.size : Int) < 6 := by have := hp.size; omega
 have ht : ((t.size : Int) != 6 + k5) = false := by have := hp.size; simp; omega
 have HSM : Hid (s.size ≤ maxLen) := by unfold Hid maxLen; omega
 have HS : Hid (s.size ≤ 281474976710656) := by unfold Hid; omega
 have HP := hide hp
 have H5 := hide h5
 have HBB := hide hb
 clear hp h5 hb
 go_enter Tryz.func102, Tryz.ntmps102
 go_upto_region 3 with fail
 go_cut [4] (fun p4 wc => ∃ g, p4 = .pointer (some ⟨g, 0, none⟩) ∧ MsgAt wc g 1 k1 k2 k3 0 false s ∧ MsgAt wc w.heap.size 0 0 0 0 0 false ⟨#[]⟩ ∧ w.heap.size < g ∧ Below w.heap.size w wc)
 case first =>
  refine wp_region_held_drew (S := fun _ => True) (by kernel_rfl) trivial (fun _ => ?_)
  refine tkW (i := 0) (v := .string t) rfl (Or.inl ⟨by rfl, ?_⟩) trivial ?_
  · intro w hSw
    go_simp
  simp only [Act.put, List.setIfInBounds_toArray]
  refine tkW (i := 1) (v := .int .u8 1) rfl (Or.inl ⟨by rfl, ?_⟩) trivial ?_
  · intro w hSw
    go_simp
  simp only [Act.put]
  refine tkW (i := 2) (v := .int .i64 1) rfl (Or.inl ⟨by rfl, ?_⟩) trivial ?_
  · intro w hSw
    go_simp
    rw [IntKind.wrap_i64]
    omega
  simp only [Act.put]
  refine tkW (i := 3) (v := .string t) rfl (Or.inl ⟨by rfl, ?_⟩) trivial ?_
  · intro w hSw
    go_simp
  simp only [Act.put]
  refine tkW (i := 4) (v := .int .u8 k1) rfl (Or.inl ⟨by rfl, ?_⟩) trivial ?_
  · intro w hSw
    go_simp
  simp only [Act.put]
  refine tkW (i := 5) (v := .int .i64 k1) rfl (Or.inl ⟨by rfl, ?_⟩) trivial ?_
  · intro w hSw
    go_simp
    rw [IntKind.wrap_i64]
    omega
  simp only [Act.put]
  refine tkW (i := 6) (v := .string t) rfl (Or.inl ⟨by rfl, ?_⟩) trivial ?_
  · intro w hSw
    go_simp
  simp only [Act.put]
  refine tkW (i := 7) (v := .int .u8 k2) rfl (Or.inl ⟨by rfl, ?_⟩) trivial ?_
  · intro w hSw
    go_simp
  simp only [Act.put]
  refine tkW (i := 8) (v := .int .i64 k2) rfl (Or.inl ⟨by rfl, ?_⟩) trivial ?_
  · intro w hSw
    go_simp
    rw [IntKind.wrap_i64]
    omega
  simp only [Act.put]
  refine tkW (i := 9) (v := .string t) rfl (Or.inl ⟨by rfl, ?_⟩) trivial ?_
  · intro w hSw
    go_simp
  simp only [Act.put]
  refine tkW (i := 10) (v := .int .u8 k3) rfl (Or.inl ⟨by rfl, ?_⟩) trivial ?_
  · intro w hSw
    go_simp
  simp only [Act.put]
  refine tkW (i := 11) (v := .int .i64 k3) rfl (Or.inl ⟨by rfl, ?_⟩) trivial ?_
  · intro w hSw
    go_simp
    rw [IntKind.wrap_i64]
    omega
  simp only [Act.put]
  refine tkW (i := 12) (v := .string t) rfl (Or.inl ⟨by rfl, ?_⟩) trivial ?_
  · intro w hSw
    go_simp
  simp only [Act.put]
  refine tkW (i := 13) (v := .string s) rfl (Or.inl ⟨by rfl, ?_⟩) trivial ?_
  · intro w hSw
    go_simp
  simp only [Act.put]
  refine wpAnyH_ready (rs := [14, 16]) (by kernel_rfl) (by simp) ?_
  refine AllReadyH.cons rfl (fun K hK => ?_) (AllReadyH.cons rfl (fun K hK => ?_) AllReadyH.nil)
  · go_simp
    go_wp2_with ((go_at_call 82; refine (clone_any s _ HS.out).mono ?_; rintro e w1 ⟨rfl, hb1⟩))
    refine hK.out _ _ trivial (fun _ => ?_)
    clear hK K
    refine tkW (i := 15) (v := .agg #[.int .i64 1, .int .i64 k1, .int .i64 k2, .int .i64 k3, .int .i64 0, .bool false, .string s]) rfl (Or.inl ⟨by rfl, ?_⟩) trivial ?_
    · intro w hSw
      go_simp
    simp only [Act.put, List.setIfInBounds_toArray]
    refine rdy1 16 (fun K hK => ?_)
    go_simp
    refine hK.out _ _ trivial (fun _ => ?_)
    clear hK K
    refine rdy1 17 (fun K hK => ?_)
    go_simp
    refine hK.out _ _ trivial (fun _ => ?_)
    clear hK K
    refine wpAnyH_done (by kernel_rfl) ?_ _
    go_wp2_with fail
    go_meet
    case rel =>
     have hb2 : Below w.heap.size w w1 := (((Below.refl _ w).alloc (Nat.le_refl _) _).drew).trans (hb1.mono (by simp))
     have hlt : w.heap.size < w1.heap.size := by have := hb1.size; simp at this; omega
     exact ⟨w1.heap.size, rfl, MsgAt.alloc w1 1 k1 k2 k3 0 false s, ((MsgAt.alloc w 0 0 0 0 0 false ⟨#[]⟩).drew.later hb1 (by simp)).later (Below.alloc (Below.refl w1.heap.size w1) (Nat.le_refl _) _) hlt, hlt, hb2.alloc (Nat.le_of_lt hlt) _⟩
  · go_simp
    refine hK.out _ _ trivial (fun _ => ?_)
    clear hK K
    refine rdy1 14 (fun K hK => ?_)
    go_simp
    go_wp2_with ((go_at_call 82; refine (clone_any s _ HS.out).mono ?_; rintro e w1 ⟨rfl, hb1⟩))
    obtain ⟨hc1, hf1⟩ := bcell hb1
    refine hK.out _ _ trivial (fun _ => ?_)
    clear hK K
    refine tkW (i := 15) (v := .agg #[.int .i64 1, .int .i64 k1, .int .i64 k2, .int .i64 k3, .int .i64 0, .bool false, .string s]) rfl (Or.inl ⟨by rfl, ?_⟩) trivial ?_
    · intro w hSw
      go_simp
    simp only [Act.put, List.setIfInBounds_toArray]
    refine rdy1 17 (fun K hK => ?_)
    go_simp
    refine hK.out _ _ trivial (fun _ => ?_)
    clear hK K
    refine wpAnyH_done (by kernel_rfl) ?_ _
    go_wp2_with fail
    go_meet
    case rel =>
     have hb2 : Below w.heap.size w w1 := ((((Below.refl _ w).alloc (Nat.le_refl _) _).drew).alloc (by simp) _).trans (hb1.mono (by simp; omega))
     have hm1 : MsgAt w1 (w.heap.size + 1) 0 0 0 0 0 false ⟨#[]⟩ := (MsgAt.alloc2 w _ 0 0 0 0 0 false ⟨#[]⟩).drew.later hb1 (by simp)
     have hz1 : MsgAt w1 w.heap.size 0 0 0 0 0 false ⟨#[]⟩ := ((MsgAt.alloc w 0 0 0 0 0 false ⟨#[]⟩).later (Below.alloc (Below.refl (w.heap.size + 1) _) (by simp) _) (by omega)).drew.later hb1 (by simp; omega)
     exact ⟨w.heap.size + 1, rfl, hm1.setAll 1 k1 k2 k3 0 false s, hz1.setAllOther (by omega) _ _ _ _ _ _ _, by omega, below_setAll hb2 (by omega) _ _ _ _ _ _ _⟩
 case rest =>
  obtain ⟨g, rfl, hm, hz, hlt, hB⟩ := hcut
  obtain ⟨c0, c1, c2, c3, c4, c5, c6, g0, g1, g2, g3, g4, g5, g6⟩ := hm.cells
  have HM7 : Hid (MsgAt (wc.setCell ⟨g, 4, none⟩ (.int .i64 (k4 - 1))) g 1 k1 k2 k3 (k4 - 1) false s) := hm.setV (k4 - 1)
  have HZ7 : Hid (MsgAt (wc.setCell ⟨g, 4, none⟩ (.int .i64 (k4 - 1))) w.heap.size 0 0 0 0 0 false ⟨#[]⟩) := hz.setOther _ _ (by simp; omega)
  have HB7 : Hid (Below w.heap.size w (wc.setCell ⟨g, 4, none⟩ (.int .i64 (k4 - 1)))) := hB.setCell (by simp; omega) _
  clear hm hz hB
  go_upto_region 7 with fail
  generalize wc.setCell ⟨g, 4, none⟩ (.int .i64 (k4 - 1)) = W7 at HM7 HZ7 HB7 ⊢
  clear c0 c1 c2 c3 c4 c5 c6 g0 g1 g2 g3 g4 g5 g6
  go_cut [56] (fun c wd => c = .bool (!(decB 1 k1 k2 k3 k4 k5 s.size)) ∧ MsgAt wd g 1 k1 k2 k3 (k4 - 1) false s ∧ MsgAt wd w.heap.size 0 0 0 0 0 false ⟨#[]⟩ ∧ Below w.heap.size w wd)
  case first =>
   cases hX : hasB 1 k1 k2 k3 (k4 - 1) false s.size with
   | false =>
    have HX := hide hX
    have HD : Hid (decB 1 k1 k2 k3 k4 k5 s.size = false) := decB_no (by rw [EV.out, EN.out]; exact hX)
    clear hX
    refine wp_region_held_drew (S := (fun w' => MsgAt w' g 1 k1 k2 k3 (k4 - 1) false s ∧ MsgAt w' w.heap.size 0 0 0 0 0 false ⟨#[]⟩ ∧ Below w.heap.size w w')) (by kernel_rfl) ⟨HM7.out.drew, HZ7.out.drew, HB7.out.drew⟩ (fun hHeld => ?_)
    refine tkW (i := 0) (v := .agg #[.int .i64 1, .int .i64 k1, .int .i64 k2, .int .i64 k3, .int .i64 (k4 - 1), .bool false, .string s]) rfl (Or.inl ⟨by rfl, ?_⟩) hHeld ?_
    · intro w hSw
      obtain ⟨hm, _, _⟩ := hSw
      obtain ⟨c0, c1, c2, c3, c4, c5, c6, _⟩ := hm.cells
      go_simp
    simp only [Act.put, List.setIfInBounds_toArray]
    refine rdy1 1 (fun K hK => ?_)
    go_simp
    go_wp2_with ((go_at_call 139; refine (hasFrame_any 1 k1 k2 k3 (k4 - 1) false s _ HSM.out).mono ?_; rw [HX.out]; rintro e w1 ⟨rfl, hb1⟩))
    refine hK.out _ _ ⟨hHeld.1.later hb1 hHeld.1.lt, hHeld.2.1.later hb1 hHeld.2.1.lt, hHeld.2.2.trans (hb1.mono (Nat.le_of_lt hHeld.2.1.lt))⟩ (fun hHeld => ?_)
    clear hK K
    refine tkW (i := 2) (v := .bool true) rfl (Or.inl ⟨by rfl, ?_⟩) hHeld ?_
    · intro w hSw
      go_simp
    simp only [Act.put, List.setIfInBounds_toArray]
    refine tkW (i := 3) (v := .bool true) rfl (Or.inl ⟨by rfl, ?_⟩) hHeld ?_
    · intro w hSw
      go_simp
    simp only [Act.put]
    refine tkW (i := 4) (v := undef) rfl (Or.inr ⟨by rfl, rfl⟩) hHeld ?_
    simp only [Act.put]
    refine tkW (i := 5) (v := undef) rfl (Or.inr ⟨by rfl, rfl⟩) hHeld ?_
    simp only [Act.put]
    refine tkW (i := 6) (v := undef) rfl (Or.inr ⟨by rfl, rfl⟩) hHeld ?_
    simp only [Act.put]
    refine tkW (i := 7) (v := undef) rfl (Or.inr ⟨by rfl, rfl⟩) hHeld ?_
    simp only [Act.put]
    refine tkW (i := 8) (v := undef) rfl (Or.inr ⟨by rfl, rfl⟩) hHeld ?_
    simp only [Act.put]
    refine rdy1 9 (fun K hK => ?_)
    go_simp
    refine hK.out _ _ hHeld (fun hHeld => ?_)
    clear hK K
    refine wpAnyH_done (by kernel_rfl) ?_ _
    go_wp2_with fail
    go_meet
    case rel => exact ⟨by rw [HD.out]; rfl, hHeld.1, hHeld.2.1, hHeld.2.2⟩
   | true =>
    have HX := hide hX
    cases hM : (markOf 1 (k4 - 1) false != k4) with
    | true =>
     have HD : Hid (decB 1 k1 k2 k3 k4 k5 s.size = false) := by
      unfold Hid decB
      rw [EV.out, EN.out]
      simp at hM
      simp [hM]
     clear hX
     refine wp_region_held_drew (S := (fun w' => MsgAt w' g 1 k1 k2 k3 (k4 - 1) false s ∧ MsgAt w' w.heap.size 0 0 0 0 0 false ⟨#[]⟩ ∧ Below w.heap.size w w')) (by kernel_rfl) ⟨HM7.out.drew, HZ7.out.drew, HB7.out.drew⟩ (fun hHeld => ?_)
     refine tkW (i := 0) (v := .agg #[.int .i64 1, .int .i64 k1, .int .i64 k2, .int .i64 k3, .int .i64 (k4 - 1), .bool false, .string s]) rfl (Or.inl ⟨by rfl, ?_⟩) hHeld ?_
     · intro w hSw
       obtain ⟨hm, _, _⟩ := hSw
       obtain ⟨c0, c1, c2, c3, c4, c5, c6, _⟩ := hm.cells
       go_simp
     simp only [Act.put, List.setIfInBounds_toArray]
     refine rdy1 1 (fun K hK => ?_)
     go_simp
     go_wp2_with ((go_at_call 139; refine (hasFrame_any 1 k1 k2 k3 (k4 - 1) false s _ HSM.out).mono ?_; rw [HX.out]; rintro e w1 ⟨rfl, hb1⟩))
     refine hK.out _ _ ⟨hHeld.1.later hb1 hHeld.1.lt, hHeld.2.1.later hb1 hHeld.2.1.lt, hHeld.2.2.trans (hb1.mono (Nat.le_of_lt hHeld.2.1.lt))⟩ (fun hHeld => ?_)
     clear hK K
     refine tkW (i := 2) (v := .bool false) rfl (Or.inl ⟨by rfl, ?_⟩) hHeld ?_
     · intro w hSw
       go_simp
     simp only [Act.put, List.setIfInBounds_toArray]
     refine tkW (i := 3) (v := .bool false) rfl (Or.inl ⟨by rfl, ?_⟩) hHeld ?_
     · intro w hSw
       go_simp
     simp only [Act.put]
     refine tkW (i := 4) (v := .agg #[.int .i64 1, .int .i64 k1, .int .i64 k2, .int .i64 k3, .int .i64 (k4 - 1), .bool false, .string s]) rfl (Or.inl ⟨by rfl, ?_⟩) hHeld ?_
     · intro w hSw
       obtain ⟨hm, _, _⟩ := hSw
       obtain ⟨c0, c1, c2, c3, c4, c5, c6, _⟩ := hm.cells
       go_simp
     simp only [Act.put]
     refine tkW (i := 6) (v := .string t) rfl (Or.inl ⟨by rfl, ?_⟩) hHeld ?_
     · intro w hSw
       go_simp
     simp only [Act.put]
     refine tkW (i := 7) (v := .int .u8 k4) rfl (Or.inl ⟨by rfl, ?_⟩) hHeld ?_
     · intro w hSw
       go_simp
     simp only [Act.put]
     refine rdy1 5 (fun K hK => ?_)
     go_simp
     go_wp2_with ((go_at_call 140; refine (wireMark_any 1 k1 k2 k3 (k4 - 1) false s _ HX.out).mono ?_; rintro e w1 ⟨rfl, hb1⟩))
     refine hK.out _ _ ⟨hHeld.1.later hb1 hHeld.1.lt, hHeld.2.1.later hb1 hHeld.2.1.lt, hHeld.2.2.trans (hb1.mono (Nat.le_of_lt hHeld.2.1.lt))⟩ (fun hHeld => ?_)
     clear hK K
     refine tkW (i := 8) (v := .bool true) rfl (Or.inl ⟨by rfl, ?_⟩) hHeld ?_
     · intro w hSw
       go_simp
     simp only [Act.put, List.setIfInBounds_toArray]
     refine rdy1 9 (fun K hK => ?_)
     go_simp
     refine hK.out _ _ hHeld (fun hHeld => ?_)
     clear hK K
     refine wpAnyH_done (by kernel_rfl) ?_ _
     go_wp2_with fail
     go_meet
     case rel => exact ⟨by rw [HD.out]; rfl, hHeld.1, hHeld.2.1, hHeld.2.2⟩
    | false =>
     have HD : Hid (decB 1 k1 k2 k3 k4 k5 s.size = true) := by
      unfold Hid decB
      rw [EV.out, EN.out, hX]
      simp at hM
      simp [hM, H5.out]
     clear hX
     refine wp_region_held_drew (S := (fun w' => MsgAt w' g 1 k1 k2 k3 (k4 - 1) false s ∧ MsgAt w' w.heap.size 0 0 0 0 0 false ⟨#[]⟩ ∧ Below w.heap.size w w')) (by kernel_rfl) ⟨HM7.out.drew, HZ7.out.drew, HB7.out.drew⟩ (fun hHeld => ?_)
     refine tkW (i := 0) (v := .agg #[.int .i64 1, .int .i64 k1, .int .i64 k2, .int .i64 k3, .int .i64 (k4 - 1), .bool false, .string s]) rfl (Or.inl ⟨by rfl, ?_⟩) hHeld ?_
     · intro w hSw
       obtain ⟨hm, _, _⟩ := hSw
       obtain ⟨c0, c1, c2, c3, c4, c5, c6, _⟩ := hm.cells
       go_simp
     simp only [Act.put, List.setIfInBounds_toArray]
     refine rdy1 1 (fun K hK => ?_)
     go_simp
     go_wp2_with ((go_at_call 139; refine (hasFrame_any 1 k1 k2 k3 (k4 - 1) false s _ HSM.out).mono ?_; rw [HX.out]; rintro e w1 ⟨rfl, hb1⟩))
     refine hK.out _ _ ⟨hHeld.1.later hb1 hHeld.1.lt, hHeld.2.1.later hb1 hHeld.2.1.lt, hHeld.2.2.trans (hb1.mono (Nat.le_of_lt hHeld.2.1.lt))⟩ (fun hHeld => ?_)
     clear hK K
     refine tkW (i := 2) (v := .bool false) rfl (Or.inl ⟨by rfl, ?_⟩) hHeld ?_
     · intro w hSw
       go_simp
     simp only [Act.put, List.setIfInBounds_toArray]
     refine tkW (i := 3) (v := .bool false) rfl (Or.inl ⟨by rfl, ?_⟩) hHeld ?_
     · intro w hSw
       go_simp
     simp only [Act.put]
     refine tkW (i := 4) (v := .agg #[.int .i64 1, .int .i64 k1, .int .i64 k2, .int .i64 k3, .int .i64 (k4 - 1), .bool false, .string s]) rfl (Or.inl ⟨by rfl, ?_⟩) hHeld ?_
     · intro w hSw
       obtain ⟨hm, _, _⟩ := hSw
       obtain ⟨c0, c1, c2, c3, c4, c5, c6, _⟩ := hm.cells
       go_simp
     simp only [Act.put]
     refine tkW (i := 6) (v := .string t) rfl (Or.inl ⟨by rfl, ?_⟩) hHeld ?_
     · intro w hSw
       go_simp
     simp only [Act.put]
     refine tkW (i := 7) (v := .int .u8 k4) rfl (Or.inl ⟨by rfl, ?_⟩) hHeld ?_
     · intro w hSw
       go_simp
     simp only [Act.put]
     refine rdy1 5 (fun K hK => ?_)
     go_simp
     go_wp2_with ((go_at_call 140; refine (wireMark_any 1 k1 k2 k3 (k4 - 1) false s _ HX.out).mono ?_; rintro e w1 ⟨rfl, hb1⟩))
     refine hK.out _ _ ⟨hHeld.1.later hb1 hHeld.1.lt, hHeld.2.1.later hb1 hHeld.2.1.lt, hHeld.2.2.trans (hb1.mono (Nat.le_of_lt hHeld.2.1.lt))⟩ (fun hHeld => ?_)
     clear hK K
     refine tkW (i := 8) (v := .bool false) rfl (Or.inl ⟨by rfl, ?_⟩) hHeld ?_
     · intro w hSw
       go_simp
     simp only [Act.put, List.setIfInBounds_toArray]
     refine rdy1 9 (fun K hK => ?_)
     go_simp
     refine hK.out _ _ hHeld (fun hHeld => ?_)
     clear hK K
     refine wpAnyH_done (by kernel_rfl) ?_ _
     go_wp2_with fail
     go_meet
     case rel => exact ⟨by rw [HD.out]; rfl, hHeld.1, hHeld.2.1, hHeld.2.2⟩
  case rest =>
   obtain ⟨rfl, hHeld⟩ := hcut
   cases hD : decB 1 k1 k2 k3 k4 k5 s.size with
   | false =>
    have HD := hide hD
    clear hD
    obtain ⟨hm, hz, hB⟩ := hHeld
    obtain ⟨c0, c1, c2, c3, c4, c5, c6, g0, g1, g2, g3, g4, g5, g6⟩ := hm.cells
    obtain ⟨z0, z1, z2, z3, z4, z5, z6, y0, y1, y2, y3, y4, y5, y6⟩ := hz.cells
    have HBF := hide hB
    have hbb := (hB.cell (p := ⟨2, 0, none⟩) (World.block_lt_of_cell? _ _ HBB.out)).trans HBB.out
    have hn1 : ¬ w.heap.size = 2 := by have := World.block_lt_of_cell? _ _ HBB.out; simp at this; omega
    have hn2 : ¬ 2 = w.heap.size := fun e => hn1 e.symm
    clear hm hz hB
    go_wp2
    go_region
    go_wp2
    exact bodyPost_ret (v := .tuple #[.agg #[.int .i64 0, .int .i64 0, .int .i64 0, .int .i64 0, .int .i64 0, .bool false, .string ⟨#[]⟩], .iface 294 (.pointer (some b))]) (by simp [results, Tryz.results102, go_sem, z0, z1, z2, z3, z4, z5, z6]) rfl ⟨form_no HD.out, (below_setAll HBF.out (Nat.le_refl _) _ _ _ _ _ _ _).drew⟩
   | true =>
    have HD := hide hD
    clear hD
    obtain ⟨hm, hz, hB⟩ := hHeld
    obtain ⟨c0, c1, c2, c3, c4, c5, c6, g0, g1, g2, g3, g4, g5, g6⟩ := hm.cells
    obtain ⟨z0, z1, z2, z3, z4, z5, z6, y0, y1, y2, y3, y4, y5, y6⟩ := hz.cells
    have HBF := hide hB
    clear hm hz hB
    go_wp2
    exact bodyPost_ret (v := .tuple #[.agg #[.int .i64 1, .int .i64 k1, .int .i64 k2, .int .i64 k3, .int .i64 (k4 - 1), .bool false, .string s], .nilIface]) (by simp [results, Tryz.results102, go_sem, z0, z1, z2, z3, z4, z5, z6]) rfl ⟨form_yes HD.out EV.out EN.out, below_setAll HBF.out (Nat.le_refl _) _ _ _ _ _ _ _⟩

set_option maxRecDepth 100000 in
set_option maxHeartbeats 4000000 in
theorem wireDecode_b (t : ByteArray) (k0 k1 k2 k3 k5 : Int) (s : ByteArray) (b : Addr) (w : World) (hp : Parts t k0 k1 k2 k3 1 k5 s) (h5 : (s.size : Int) = k5) (hb : w.cell? ⟨2, 0, none⟩ = some (.iface 294 (.pointer (some b)))) (hk : k0 ≠ 1) :
 Calls Tryz.prog 102 #[.string t] w fun e w' => e = .returned (.tuple #[decM k0 k1 k2 k3 1 k5 s, formE b (decB k0 k1 k2 k3 1 k5 s.size)]) ∧ Below w.heap.size w w' := by
 have a0 := hp.at0
 have a1 := hp.at1
 have a2 := hp.at2
 have a3 := hp.at3
 have a4 := hp.at4
 have a5 := hp.at5
 have ar := hp.rest
 have b0 := hp.b0
 have b1 := hp.b1
 have b2 := hp.b2
 have b3 := hp.b3
 have b4 := hp.b4
 have b5 := hp.b5
 have EV : Hid (vOf k0 1 = 0) := by unfold Hid vOf; rw [if_neg hk]
 have EN : Hid (nlOf k0 1 = true) := by unfold Hid nlOf; rw [if_neg hk]; rfl
 have hk' : (k0 == 1) = false := by simpa using hk
 clear hk
 have h6 : ¬ (t.size : Int) < 6 := by have := hp.size; omega
 have ht : ((t.size : Int) != 6 + k5) = false := by have := hp.size; simp; omega
 have HSM : Hid (s.size ≤ maxLen) := by unfold Hid maxLen; omega
 have HS : Hid (s.size ≤ 281474976710656) := by unfold Hid; omega
 have HP := hide hp
 have H5 := hide h5
 have HBB := hide hb
 clear hp h5 hb
 go_enter Tryz.func102, Tryz.ntmps102
 go_upto_region 3 with fail
 go_cut [4] (fun p4 wc => ∃ g, p4 = .pointer (some ⟨g, 0, none⟩) ∧ MsgAt wc g k0 k1 k2 k3 0 false s ∧ MsgAt wc w.heap.size 0 0 0 0 0 false ⟨#[]⟩ ∧ w.heap.size < g ∧ Below w.heap.size w wc)
 case first =>
  refine wp_region_held_drew (S := fun _ => True) (by kernel_rfl) trivial (fun _ => ?_)
  refine tkW (i := 0) (v := .string t) rfl (Or.inl ⟨by rfl, ?_⟩) trivial ?_
  · intro w hSw
    go_simp
  simp only [Act.put, List.setIfInBounds_toArray]
  refine tkW (i := 1) (v := .int .u8 k0) rfl (Or.inl ⟨by rfl, ?_⟩) trivial ?_
  · intro w hSw
    go_simp
  simp only [Act.put]
  refine tkW (i := 2) (v := .int .i64 k0) rfl (Or.inl ⟨by rfl, ?_⟩) trivial ?_
  · intro w hSw
    go_simp
    rw [IntKind.wrap_i64]
    omega
  simp only [Act.put]
  refine tkW (i := 3) (v := .string t) rfl (Or.inl ⟨by rfl, ?_⟩) trivial ?_
  · intro w hSw
    go_simp
  simp only [Act.put]
  refine tkW (i := 4) (v := .int .u8 k1) rfl (Or.inl ⟨by rfl, ?_⟩) trivial ?_
  · intro w hSw
    go_simp
  simp only [Act.put]
  refine tkW (i := 5) (v := .int .i64 k1) rfl (Or.inl ⟨by rfl, ?_⟩) trivial ?_
  · intro w hSw
    go_simp
    rw [IntKind.wrap_i64]
    omega
  simp only [Act.put]
  refine tkW (i := 6) (v := .string t) rfl (Or.inl ⟨by rfl, ?_⟩) trivial ?_
  · intro w hSw
    go_simp
  simp only [Act.put]
  refine tkW (i := 7) (v := .int .u8 k2) rfl (Or.inl ⟨by rfl, ?_⟩) trivial ?_
  · intro w hSw
    go_simp
  simp only [Act.put]
  refine tkW (i := 8) (v := .int .i64 k2) rfl (Or.inl ⟨by rfl, ?_⟩) trivial ?_
  · intro w hSw
    go_simp
    rw [IntKind.wrap_i64]
    omega
  simp only [Act.put]
  refine tkW (i := 9) (v := .string t) rfl (Or.inl ⟨by rfl, ?_⟩) trivial ?_
  · intro w hSw
    go_simp
  simp only [Act.put]
  refine tkW (i := 10) (v := .int .u8 k3) rfl (Or.inl ⟨by rfl, ?_⟩) trivial ?_
  · intro w hSw
    go_simp
  simp only [Act.put]
  refine tkW (i := 11) (v := .int .i64 k3) rfl (Or.inl ⟨by rfl, ?_⟩) trivial ?_
  · intro w hSw
    go_simp
    rw [IntKind.wrap_i64]
    omega
  simp only [Act.put]
  refine tkW (i := 12) (v := .string t) rfl (Or.inl ⟨by rfl, ?_⟩) trivial ?_
  · intro w hSw
    go_simp
  simp only [Act.put]
  refine tkW (i := 13) (v := .string s) rfl (Or.inl ⟨by rfl, ?_⟩) trivial ?_
  · intro w hSw
    go_simp
  simp only [Act.put]
  refine wpAnyH_ready (rs := [14, 16]) (by kernel_rfl) (by simp) ?_
  refine AllReadyH.cons rfl (fun K hK => ?_) (AllReadyH.cons rfl (fun K hK => ?_) AllReadyH.nil)
  · go_simp
    go_wp2_with ((go_at_call 82; refine (clone_any s _ HS.out).mono ?_; rintro e w1 ⟨rfl, hb1⟩))
    refine hK.out _ _ trivial (fun _ => ?_)
    clear hK K
    refine tkW (i := 15) (v := .agg #[.int .i64 k0, .int .i64 k1, .int .i64 k2, .int .i64 k3, .int .i64 0, .bool false, .string s]) rfl (Or.inl ⟨by rfl, ?_⟩) trivial ?_
    · intro w hSw
      go_simp
    simp only [Act.put, List.setIfInBounds_toArray]
    refine rdy1 16 (fun K hK => ?_)
    go_simp
    refine hK.out _ _ trivial (fun _ => ?_)
    clear hK K
    refine rdy1 17 (fun K hK => ?_)
    go_simp
    refine hK.out _ _ trivial (fun _ => ?_)
    clear hK K
    refine wpAnyH_done (by kernel_rfl) ?_ _
    go_wp2_with fail
    go_meet
    case rel =>
     have hb2 : Below w.heap.size w w1 := (((Below.refl _ w).alloc (Nat.le_refl _) _).drew).trans (hb1.mono (by simp))
     have hlt : w.heap.size < w1.heap.size := by have := hb1.size; simp at this; omega
     exact ⟨w1.heap.size, rfl, MsgAt.alloc w1 k0 k1 k2 k3 0 false s, ((MsgAt.alloc w 0 0 0 0 0 false ⟨#[]⟩).drew.later hb1 (by simp)).later (Below.alloc (Below.refl w1.heap.size w1) (Nat.le_refl _) _) hlt, hlt, hb2.alloc (Nat.le_of_lt hlt) _⟩
  · go_simp
    refine hK.out _ _ trivial (fun _ => ?_)
    clear hK K
    refine rdy1 14 (fun K hK => ?_)
    go_simp
    go_wp2_with ((go_at_call 82; refine (clone_any s _ HS.out).mono ?_; rintro e w1 ⟨rfl, hb1⟩))
    obtain ⟨hc1, hf1⟩ := bcell hb1
    refine hK.out _ _ trivial (fun _ => ?_)
    clear hK K
    refine tkW (i := 15) (v := .agg #[.int .i64 k0, .int .i64 k1, .int .i64 k2, .int .i64 k3, .int .i64 0, .bool false, .string s]) rfl (Or.inl ⟨by rfl, ?_⟩) trivial ?_
    · intro w hSw
      go_simp
    simp only [Act.put, List.setIfInBounds_toArray]
    refine rdy1 17 (fun K hK => ?_)
    go_simp
    refine hK.out _ _ trivial (fun _ => ?_)
    clear hK K
    refine wpAnyH_done (by kernel_rfl) ?_ _
    go_wp2_with fail
    go_meet
    case rel =>
     have hb2 : Below w.heap.size w w1 := ((((Below.refl _ w).alloc (Nat.le_refl _) _).drew).alloc (by simp) _).trans (hb1.mono (by simp; omega))
     have hm1 : MsgAt w1 (w.heap.size + 1) 0 0 0 0 0 false ⟨#[]⟩ := (MsgAt.alloc2 w _ 0 0 0 0 0 false ⟨#[]⟩).drew.later hb1 (by simp)
     have hz1 : MsgAt w1 w.heap.size 0 0 0 0 0 false ⟨#[]⟩ := ((MsgAt.alloc w 0 0 0 0 0 false ⟨#[]⟩).later (Below.alloc (Below.refl (w.heap.size + 1) _) (by simp) _) (by omega)).drew.later hb1 (by simp; omega)
     exact ⟨w.heap.size + 1, rfl, hm1.setAll k0 k1 k2 k3 0 false s, hz1.setAllOther (by omega) _ _ _ _ _ _ _, by omega, below_setAll hb2 (by omega) _ _ _ _ _ _ _⟩
 case rest =>
  obtain ⟨g, rfl, hm, hz, hlt, hB⟩ := hcut
  obtain ⟨c0, c1, c2, c3, c4, c5, c6, g0, g1, g2, g3, g4, g5, g6⟩ := hm.cells
  have HM7 : Hid (MsgAt (wc.setCell ⟨g, 5, none⟩ (.bool true)) g k0 k1 k2 k3 0 true s) := hm.setNl true
  have HZ7 : Hid (MsgAt (wc.setCell ⟨g, 5, none⟩ (.bool true)) w.heap.size 0 0 0 0 0 false ⟨#[]⟩) := hz.setOther _ _ (by simp; omega)
  have HB7 : Hid (Below w.heap.size w (wc.setCell ⟨g, 5, none⟩ (.bool true))) := hB.setCell (by simp; omega) _
  clear hm hz hB
  go_upto_region 7 with fail
  generalize wc.setCell ⟨g, 5, none⟩ (.bool true) = W7 at HM7 HZ7 HB7 ⊢
  clear c0 c1 c2 c3 c4 c5 c6 g0 g1 g2 g3 g4 g5 g6
  go_cut [56] (fun c wd => c = .bool (!(decB k0 k1 k2 k3 1 k5 s.size)) ∧ MsgAt wd g k0 k1 k2 k3 0 true s ∧ MsgAt wd w.heap.size 0 0 0 0 0 false ⟨#[]⟩ ∧ Below w.heap.size w wd)
  case first =>
   cases hX : hasB k0 k1 k2 k3 0 true s.size with
   | false =>
    have HX := hide hX
    have HD : Hid (decB k0 k1 k2 k3 1 k5 s.size = false) := decB_no (by rw [EV.out, EN.out]; exact hX)
    clear hX
    refine wp_region_held_drew (S := (fun w' => MsgAt w' g k0 k1 k2 k3 0 true s ∧ MsgAt w' w.heap.size 0 0 0 0 0 false ⟨#[]⟩ ∧ Below w.heap.size w w')) (by kernel_rfl) ⟨HM7.out.drew, HZ7.out.drew, HB7.out.drew⟩ (fun hHeld => ?_)
    refine tkW (i := 0) (v := .agg #[.int .i64 k0, .int .i64 k1, .int .i64 k2, .int .i64 k3, .int .i64 0, .bool true, .string s]) rfl (Or.inl ⟨by rfl, ?_⟩) hHeld ?_
    · intro w hSw
      obtain ⟨hm, _, _⟩ := hSw
      obtain ⟨c0, c1, c2, c3, c4, c5, c6, _⟩ := hm.cells
      go_simp
    simp only [Act.put, List.setIfInBounds_toArray]
    refine rdy1 1 (fun K hK => ?_)
    go_simp
    go_wp2_with ((go_at_call 139; refine (hasFrame_any k0 k1 k2 k3 0 true s _ HSM.out).mono ?_; rw [HX.out]; rintro e w1 ⟨rfl, hb1⟩))
    refine hK.out _ _ ⟨hHeld.1.later hb1 hHeld.1.lt, hHeld.2.1.later hb1 hHeld.2.1.lt, hHeld.2.2.trans (hb1.mono (Nat.le_of_lt hHeld.2.1.lt))⟩ (fun hHeld => ?_)
    clear hK K
    refine tkW (i := 2) (v := .bool true) rfl (Or.inl ⟨by rfl, ?_⟩) hHeld ?_
    · intro w hSw
      go_simp
    simp only [Act.put, List.setIfInBounds_toArray]
    refine tkW (i := 3) (v := .bool true) rfl (Or.inl ⟨by rfl, ?_⟩) hHeld ?_
    · intro w hSw
      go_simp
    simp only [Act.put]
    refine tkW (i := 4) (v := undef) rfl (Or.inr ⟨by rfl, rfl⟩) hHeld ?_
    simp only [Act.put]
    refine tkW (i := 5) (v := undef) rfl (Or.inr ⟨by rfl, rfl⟩) hHeld ?_
    simp only [Act.put]
    refine tkW (i := 6) (v := undef) rfl (Or.inr ⟨by rfl, rfl⟩) hHeld ?_
    simp only [Act.put]
    refine tkW (i := 7) (v := undef) rfl (Or.inr ⟨by rfl, rfl⟩) hHeld ?_
    simp only [Act.put]
    refine tkW (i := 8) (v := undef) rfl (Or.inr ⟨by rfl, rfl⟩) hHeld ?_
    simp only [Act.put]
    refine rdy1 9 (fun K hK => ?_)
    go_simp
    refine hK.out _ _ hHeld (fun hHeld => ?_)
    clear hK K
    refine wpAnyH_done (by kernel_rfl) ?_ _
    go_wp2_with fail
    go_meet
    case rel => exact ⟨by rw [HD.out]; rfl, hHeld.1, hHeld.2.1, hHeld.2.2⟩
   | true =>
    have HX := hide hX
    cases hM : (markOf k0 0 true != 1) with
    | true =>
     have HD : Hid (decB k0 k1 k2 k3 1 k5 s.size = false) := by
      unfold Hid decB
      rw [EV.out, EN.out]
      simp at hM
      simp [hM]
     clear hX
     refine wp_region_held_drew (S := (fun w' => MsgAt w' g k0 k1 k2 k3 0 true s ∧ MsgAt w' w.heap.size 0 0 0 0 0 false ⟨#[]⟩ ∧ Below w.heap.size w w')) (by kernel_rfl) ⟨HM7.out.drew, HZ7.out.drew, HB7.out.drew⟩ (fun hHeld => ?_)
     refine tkW (i := 0) (v := .agg #[.int .i64 k0, .int .i64 k1, .int .i64 k2, .int .i64 k3, .int .i64 0, .bool true, .string s]) rfl (Or.inl ⟨by rfl, ?_⟩) hHeld ?_
     · intro w hSw
       obtain ⟨hm, _, _⟩ := hSw
       obtain ⟨c0, c1, c2, c3, c4, c5, c6, _⟩ := hm.cells
       go_simp
     simp only [Act.put, List.setIfInBounds_toArray]
     refine rdy1 1 (fun K hK => ?_)
     go_simp
     go_wp2_with ((go_at_call 139; refine (hasFrame_any k0 k1 k2 k3 0 true s _ HSM.out).mono ?_; rw [HX.out]; rintro e w1 ⟨rfl, hb1⟩))
     refine hK.out _ _ ⟨hHeld.1.later hb1 hHeld.1.lt, hHeld.2.1.later hb1 hHeld.2.1.lt, hHeld.2.2.trans (hb1.mono (Nat.le_of_lt hHeld.2.1.lt))⟩ (fun hHeld => ?_)
     clear hK K
     refine tkW (i := 2) (v := .bool false) rfl (Or.inl ⟨by rfl, ?_⟩) hHeld ?_
     · intro w hSw
       go_simp
     simp only [Act.put, List.setIfInBounds_toArray]
     refine tkW (i := 3) (v := .bool false) rfl (Or.inl ⟨by rfl, ?_⟩) hHeld ?_
     · intro w hSw
       go_simp
     simp only [Act.put]
     refine tkW (i := 4) (v := .agg #[.int .i64 k0, .int .i64 k1, .int .i64 k2, .int .i64 k3, .int .i64 0, .bool true, .string s]) rfl (Or.inl ⟨by rfl, ?_⟩) hHeld ?_
     · intro w hSw
       obtain ⟨hm, _, _⟩ := hSw
       obtain ⟨c0, c1, c2, c3, c4, c5, c6, _⟩ := hm.cells
       go_simp
     simp only [Act.put]
     refine tkW (i := 6) (v := .string t) rfl (Or.inl ⟨by rfl, ?_⟩) hHeld ?_
     · intro w hSw
       go_simp
     simp only [Act.put]
     refine tkW (i := 7) (v := .int .u8 1) rfl (Or.inl ⟨by rfl, ?_⟩) hHeld ?_
     · intro w hSw
       go_simp
     simp only [Act.put]
     refine rdy1 5 (fun K hK => ?_)
     go_simp
     go_wp2_with ((go_at_call 140; refine (wireMark_any k0 k1 k2 k3 0 true s _ HX.out).mono ?_; rintro e w1 ⟨rfl, hb1⟩))
     refine hK.out _ _ ⟨hHeld.1.later hb1 hHeld.1.lt, hHeld.2.1.later hb1 hHeld.2.1.lt, hHeld.2.2.trans (hb1.mono (Nat.le_of_lt hHeld.2.1.lt))⟩ (fun hHeld => ?_)
     clear hK K
     refine tkW (i := 8) (v := .bool true) rfl (Or.inl ⟨by rfl, ?_⟩) hHeld ?_
     · intro w hSw
       go_simp
     simp only [Act.put, List.setIfInBounds_toArray]
     refine rdy1 9 (fun K hK => ?_)
     go_simp
     refine hK.out _ _ hHeld (fun hHeld => ?_)
     clear hK K
     refine wpAnyH_done (by kernel_rfl) ?_ _
     go_wp2_with fail
     go_meet
     case rel => exact ⟨by rw [HD.out]; rfl, hHeld.1, hHeld.2.1, hHeld.2.2⟩
    | false =>
     have HD : Hid (decB k0 k1 k2 k3 1 k5 s.size = true) := by
      unfold Hid decB
      rw [EV.out, EN.out, hX]
      simp at hM
      simp [hM, H5.out]
     clear hX
     refine wp_region_held_drew (S := (fun w' => MsgAt w' g k0 k1 k2 k3 0 true s ∧ MsgAt w' w.heap.size 0 0 0 0 0 false ⟨#[]⟩ ∧ Below w.heap.size w w')) (by kernel_rfl) ⟨HM7.out.drew, HZ7.out.drew, HB7.out.drew⟩ (fun hHeld => ?_)
     refine tkW (i := 0) (v := .agg #[.int .i64 k0, .int .i64 k1, .int .i64 k2, .int .i64 k3, .int .i64 0, .bool true, .string s]) rfl (Or.inl ⟨by rfl, ?_⟩) hHeld ?_
     · intro w hSw
       obtain ⟨hm, _, _⟩ := hSw
       obtain ⟨c0, c1, c2, c3, c4, c5, c6, _⟩ := hm.cells
       go_simp
     simp only [Act.put, List.setIfInBounds_toArray]
     refine rdy1 1 (fun K hK => ?_)
     go_simp
     go_wp2_with ((go_at_call 139; refine (hasFrame_any k0 k1 k2 k3 0 true s _ HSM.out).mono ?_; rw [HX.out]; rintro e w1 ⟨rfl, hb1⟩))
     refine hK.out _ _ ⟨hHeld.1.later hb1 hHeld.1.lt, hHeld.2.1.later hb1 hHeld.2.1.lt, hHeld.2.2.trans (hb1.mono (Nat.le_of_lt hHeld.2.1.lt))⟩ (fun hHeld => ?_)
     clear hK K
     refine tkW (i := 2) (v := .bool false) rfl (Or.inl ⟨by rfl, ?_⟩) hHeld ?_
     · intro w hSw
       go_simp
     simp only [Act.put, List.setIfInBounds_toArray]
     refine tkW (i := 3) (v := .bool false) rfl (Or.inl ⟨by rfl, ?_⟩) hHeld ?_
     · intro w hSw
       go_simp
     simp only [Act.put]
     refine tkW (i := 4) (v := .agg #[.int .i64 k0, .int .i64 k1, .int .i64 k2, .int .i64 k3, .int .i64 0, .bool true, .string s]) rfl (Or.inl ⟨by rfl, ?_⟩) hHeld ?_
     · intro w hSw
       obtain ⟨hm, _, _⟩ := hSw
       obtain ⟨c0, c1, c2, c3, c4, c5, c6, _⟩ := hm.cells
       go_simp
     simp only [Act.put]
     refine tkW (i := 6) (v := .string t) rfl (Or.inl ⟨by rfl, ?_⟩) hHeld ?_
     · intro w hSw
       go_simp
     simp only [Act.put]
     refine tkW (i := 7) (v := .int .u8 1) rfl (Or.inl ⟨by rfl, ?_⟩) hHeld ?_
     · intro w hSw
       go_simp
     simp only [Act.put]
     refine rdy1 5 (fun K hK => ?_)
     go_simp
     go_wp2_with ((go_at_call 140; refine (wireMark_any k0 k1 k2 k3 0 true s _ HX.out).mono ?_; rintro e w1 ⟨rfl, hb1⟩))
     refine hK.out _ _ ⟨hHeld.1.later hb1 hHeld.1.lt, hHeld.2.1.later hb1 hHeld.2.1.lt, hHeld.2.2.trans (hb1.mono (Nat.le_of_lt hHeld.2.1.lt))⟩ (fun hHeld => ?_)
     clear hK K
     refine tkW (i := 8) (v := .bool false) rfl (Or.inl ⟨by rfl, ?_⟩) hHeld ?_
     · intro w hSw
       go_simp
     simp only [Act.put, List.setIfInBounds_toArray]
     refine rdy1 9 (fun K hK => ?_)
     go_simp
     refine hK.out _ _ hHeld (fun hHeld => ?_)
     clear hK K
     refine wpAnyH_done (by kernel_rfl) ?_ _
     go_wp2_with fail
     go_meet
     case rel => exact ⟨by rw [HD.out]; rfl, hHeld.1, hHeld.2.1, hHeld.2.2⟩
  case rest =>
   obtain ⟨rfl, hHeld⟩ := hcut
   cases hD : decB k0 k1 k2 k3 1 k5 s.size with
   | false =>
    have HD := hide hD
    clear hD
    obtain ⟨hm, hz, hB⟩ := hHeld
    obtain ⟨c0, c1, c2, c3, c4, c5, c6, g0, g1, g2, g3, g4, g5, g6⟩ := hm.cells
    obtain ⟨z0, z1, z2, z3, z4, z5, z6, y0, y1, y2, y3, y4, y5, y6⟩ := hz.cells
    have HBF := hide hB
    have hbb := (hB.cell (p := ⟨2, 0, none⟩) (World.block_lt_of_cell? _ _ HBB.out)).trans HBB.out
    have hn1 : ¬ w.heap.size = 2 := by have := World.block_lt_of_cell? _ _ HBB.out; simp at this; omega
    have hn2 : ¬ 2 = w.heap.size := fun e => hn1 e.symm
    clear hm hz hB
    go_wp2
    go_region
    go_wp2
    exact bodyPost_ret (v := .tuple #[.agg #[.int .i64 0, .int .i64 0, .int .i64 0, .int .i64 0, .int .i64 0, .bool false, .string ⟨#[]⟩], .iface 294 (.pointer (some b))]) (by simp [results, Tryz.results102, go_sem, z0, z1, z2, z3, z4, z5, z6]) rfl ⟨form_no HD.out, (below_setAll HBF.out (Nat.le_refl _) _ _ _ _ _ _ _).drew⟩
   | true =>
    have HD := hide hD
    clear hD
    obtain ⟨hm, hz, hB⟩ := hHeld
    obtain ⟨c0, c1, c2, c3, c4, c5, c6, g0, g1, g2, g3, g4, g5, g6⟩ := hm.cells
    obtain ⟨z0, z1, z2, z3, z4, z5, z6, y0, y1, y2, y3, y4, y5, y6⟩ := hz.cells
    have HBF := hide hB
    clear hm hz hB
    go_wp2
    exact bodyPost_ret (v := .tuple #[.agg #[.int .i64 k0, .int .i64 k1, .int .i64 k2, .int .i64 k3, .int .i64 0, .bool true, .string s], .nilIface]) (by simp [results, Tryz.results102, go_sem, z0, z1, z2, z3, z4, z5, z6]) rfl ⟨form_yes HD.out EV.out EN.out, below_setAll HBF.out (Nat.le_refl _) _ _ _ _ _ _ _⟩

set_option maxRecDepth 100000 in
set_option maxHeartbeats 4000000 in
theorem wireDecode_c (t : ByteArray) (k0 k1 k2 k3 k4 k5 : Int) (s : ByteArray) (b : Addr) (w : World) (hp : Parts t k0 k1 k2 k3 k4 k5 s) (h5 : (s.size : Int) = k5) (hb : w.cell? ⟨2, 0, none⟩ = some (.iface 294 (.pointer (some b)))) (hk : k0 ≠ 1) (hk4 : k4 ≠ 1) :
 Calls Tryz.prog 102 #[.string t] w fun e w' => e = .returned (.tuple #[decM k0 k1 k2 k3 k4 k5 s, formE b (decB k0 k1 k2 k3 k4 k5 s.size)]) ∧ Below w.heap.size w w' := by
 have a0 := hp.at0
 have a1 := hp.at1
 have a2 := hp.at2
 have a3 := hp.at3
 have a4 := hp.at4
 have a5 := hp.at5
 have ar := hp.rest
 have b0 := hp.b0
 have b1 := hp.b1
 have b2 := hp.b2
 have b3 := hp.b3
 have b4 := hp.b4
 have b5 := hp.b5
 have EV : Hid (vOf k0 k4 = 0) := by unfold Hid vOf; rw [if_neg hk]
 have EN : Hid (nlOf k0 k4 = false) := by unfold Hid nlOf; rw [if_neg hk]; simpa using hk4
 have hk' : (k0 == 1) = false := by simpa using hk
 have hk4' : (k4 == 1) = false := by simpa using hk4
 clear hk hk4
 have h6 : ¬ (t.size : Int) < 6 := by have := hp.size; omega
 have ht : ((t.size : Int) != 6 + k5) = false := by have := hp.size; simp; omega
 have HSM : Hid (s.size ≤ maxLen) := by unfold Hid maxLen; omega
 have HS : Hid (s.size ≤ 281474976710656) := by unfold Hid; omega
 have HP := hide hp
 have H5 := hide h5
 have HBB := hide hb
 clear hp h5 hb
 go_enter Tryz.func102, Tryz.ntmps102
 go_upto_region 3 with fail
 go_cut [4] (fun p4 wc => ∃ g, p4 = .pointer (some ⟨g, 0, none⟩) ∧ MsgAt wc g k0 k1 k2 k3 0 false s ∧ MsgAt wc w.heap.size 0 0 0 0 0 false ⟨#[]⟩ ∧ w.heap.size < g ∧ Below w.heap.size w wc)
 case first =>
  refine wp_region_held_drew (S := fun _ => True) (by kernel_rfl) trivial (fun _ => ?_)
  refine tkW (i := 0) (v := .string t) rfl (Or.inl ⟨by rfl, ?_⟩) trivial ?_
  · intro w hSw
    go_simp
  simp only [Act.put, List.setIfInBounds_toArray]
  refine tkW (i := 1) (v := .int .u8 k0) rfl (Or.inl ⟨by rfl, ?_⟩) trivial ?_
  · intro w hSw
    go_simp
  simp only [Act.put]
  refine tkW (i := 2) (v := .int .i64 k0) rfl (Or.inl ⟨by rfl, ?_⟩) trivial ?_
  · intro w hSw
    go_simp
    rw [IntKind.wrap_i64]
    omega
  simp only [Act.put]
  refine tkW (i := 3) (v := .string t) rfl (Or.inl ⟨by rfl, ?_⟩) trivial ?_
  · intro w hSw
    go_simp
  simp only [Act.put]
  refine tkW (i := 4) (v := .int .u8 k1) rfl (Or.inl ⟨by rfl, ?_⟩) trivial ?_
  · intro w hSw
    go_simp
  simp only [Act.put]
  refine tkW (i := 5) (v := .int .i64 k1) rfl (Or.inl ⟨by rfl, ?_⟩) trivial ?_
  · intro w hSw
    go_simp
    rw [IntKind.wrap_i64]
    omega
  simp only [Act.put]
  refine tkW (i := 6) (v := .string t) rfl (Or.inl ⟨by rfl, ?_⟩) trivial ?_
  · intro w hSw
    go_simp
  simp only [Act.put]
  refine tkW (i := 7) (v := .int .u8 k2) rfl (Or.inl ⟨by rfl, ?_⟩) trivial ?_
  · intro w hSw
    go_simp
  simp only [Act.put]
  refine tkW (i := 8) (v := .int .i64 k2) rfl (Or.inl ⟨by rfl, ?_⟩) trivial ?_
  · intro w hSw
    go_simp
    rw [IntKind.wrap_i64]
    omega
  simp only [Act.put]
  refine tkW (i := 9) (v := .string t) rfl (Or.inl ⟨by rfl, ?_⟩) trivial ?_
  · intro w hSw
    go_simp
  simp only [Act.put]
  refine tkW (i := 10) (v := .int .u8 k3) rfl (Or.inl ⟨by rfl, ?_⟩) trivial ?_
  · intro w hSw
    go_simp
  simp only [Act.put]
  refine tkW (i := 11) (v := .int .i64 k3) rfl (Or.inl ⟨by rfl, ?_⟩) trivial ?_
  · intro w hSw
    go_simp
    rw [IntKind.wrap_i64]
    omega
  simp only [Act.put]
  refine tkW (i := 12) (v := .string t) rfl (Or.inl ⟨by rfl, ?_⟩) trivial ?_
  · intro w hSw
    go_simp
  simp only [Act.put]
  refine tkW (i := 13) (v := .string s) rfl (Or.inl ⟨by rfl, ?_⟩) trivial ?_
  · intro w hSw
    go_simp
  simp only [Act.put]
  refine wpAnyH_ready (rs := [14, 16]) (by kernel_rfl) (by simp) ?_
  refine AllReadyH.cons rfl (fun K hK => ?_) (AllReadyH.cons rfl (fun K hK => ?_) AllReadyH.nil)
  · go_simp
    go_wp2_with ((go_at_call 82; refine (clone_any s _ HS.out).mono ?_; rintro e w1 ⟨rfl, hb1⟩))
    refine hK.out _ _ trivial (fun _ => ?_)
    clear hK K
    refine tkW (i := 15) (v := .agg #[.int .i64 k0, .int .i64 k1, .int .i64 k2, .int .i64 k3, .int .i64 0, .bool false, .string s]) rfl (Or.inl ⟨by rfl, ?_⟩) trivial ?_
    · intro w hSw
      go_simp
    simp only [Act.put, List.setIfInBounds_toArray]
    refine rdy1 16 (fun K hK => ?_)
    go_simp
    refine hK.out _ _ trivial (fun _ => ?_)
    clear hK K
    refine rdy1 17 (fun K hK => ?_)
    go_simp
    refine hK.out _ _ trivial (fun _ => ?_)
    clear hK K
    refine wpAnyH_done (by kernel_rfl) ?_ _
    go_wp2_with fail
    go_meet
    case rel =>
     have hb2 : Below w.heap.size w w1 := (((Below.refl _ w).alloc (Nat.le_refl _) _).drew).trans (hb1.mono (by simp))
     have hlt : w.heap.size < w1.heap.size := by have := hb1.size; simp at this; omega
     exact ⟨w1.heap.size, rfl, MsgAt.alloc w1 k0 k1 k2 k3 0 false s, ((MsgAt.alloc w 0 0 0 0 0 false ⟨#[]⟩).drew.later hb1 (by simp)).later (Below.alloc (Below.refl w1.heap.size w1) (Nat.le_refl _) _) hlt, hlt, hb2.alloc (Nat.le_of_lt hlt) _⟩
  · go_simp
    refine hK.out _ _ trivial (fun _ => ?_)
    clear hK K
    refine rdy1 14 (fun K hK => ?_)
    go_simp
    go_wp2_with ((go_at_call 82; refine (clone_any s _ HS.out).mono ?_; rintro e w1 ⟨rfl, hb1⟩))
    obtain ⟨hc1, hf1⟩ := bcell hb1
    refine hK.out _ _ trivial (fun _ => ?_)
    clear hK K
    refine tkW (i := 15) (v := .agg #[.int .i64 k0, .int .i64 k1, .int .i64 k2, .int .i64 k3, .int .i64 0, .bool false, .string s]) rfl (Or.inl ⟨by rfl, ?_⟩) trivial ?_
    · intro w hSw
      go_simp
    simp only [Act.put, List.setIfInBounds_toArray]
    refine rdy1 17 (fun K hK => ?_)
    go_simp
    refine hK.out _ _ trivial (fun _ => ?_)
    clear hK K
    refine wpAnyH_done (by kernel_rfl) ?_ _
    go_wp2_with fail
    go_meet
    case rel =>
     have hb2 : Below w.heap.size w w1 := ((((Below.refl _ w).alloc (Nat.le_refl _) _).drew).alloc (by simp) _).trans (hb1.mono (by simp; omega))
     have hm1 : MsgAt w1 (w.heap.size + 1) 0 0 0 0 0 false ⟨#[]⟩ := (MsgAt.alloc2 w _ 0 0 0 0 0 false ⟨#[]⟩).drew.later hb1 (by simp)
     have hz1 : MsgAt w1 w.heap.size 0 0 0 0 0 false ⟨#[]⟩ := ((MsgAt.alloc w 0 0 0 0 0 false ⟨#[]⟩).later (Below.alloc (Below.refl (w.heap.size + 1) _) (by simp) _) (by omega)).drew.later hb1 (by simp; omega)
     exact ⟨w.heap.size + 1, rfl, hm1.setAll k0 k1 k2 k3 0 false s, hz1.setAllOther (by omega) _ _ _ _ _ _ _, by omega, below_setAll hb2 (by omega) _ _ _ _ _ _ _⟩
 case rest =>
  obtain ⟨g, rfl, hm, hz, hlt, hB⟩ := hcut
  obtain ⟨c0, c1, c2, c3, c4, c5, c6, g0, g1, g2, g3, g4, g5, g6⟩ := hm.cells
  have HM7 : Hid (MsgAt (wc.setCell ⟨g, 5, none⟩ (.bool false)) g k0 k1 k2 k3 0 false s) := hm.setNl false
  have HZ7 : Hid (MsgAt (wc.setCell ⟨g, 5, none⟩ (.bool false)) w.heap.size 0 0 0 0 0 false ⟨#[]⟩) := hz.setOther _ _ (by simp; omega)
  have HB7 : Hid (Below w.heap.size w (wc.setCell ⟨g, 5, none⟩ (.bool false))) := hB.setCell (by simp; omega) _
  clear hm hz hB
  go_upto_region 7 with fail
  generalize wc.setCell ⟨g, 5, none⟩ (.bool false) = W7 at HM7 HZ7 HB7 ⊢
  clear c0 c1 c2 c3 c4 c5 c6 g0 g1 g2 g3 g4 g5 g6
  go_cut [56] (fun c wd => c = .bool (!(decB k0 k1 k2 k3 k4 k5 s.size)) ∧ MsgAt wd g k0 k1 k2 k3 0 false s ∧ MsgAt wd w.heap.size 0 0 0 0 0 false ⟨#[]⟩ ∧ Below w.heap.size w wd)
  case first =>
   cases hX : hasB k0 k1 k2 k3 0 false s.size with
   | false =>
    have HX := hide hX
    have HD : Hid (decB k0 k1 k2 k3 k4 k5 s.size = false) := decB_no (by rw [EV.out, EN.out]; exact hX)
    clear hX
    refine wp_region_held_drew (S := (fun w' => MsgAt w' g k0 k1 k2 k3 0 false s ∧ MsgAt w' w.heap.size 0 0 0 0 0 false ⟨#[]⟩ ∧ Below w.heap.size w w')) (by kernel_rfl) ⟨HM7.out.drew, HZ7.out.drew, HB7.out.drew⟩ (fun hHeld => ?_)
    refine tkW (i := 0) (v := .agg #[.int .i64 k0, .int .i64 k1, .int .i64 k2, .int .i64 k3, .int .i64 0, .bool false, .string s]) rfl (Or.inl ⟨by rfl, ?_⟩) hHeld ?_
    · intro w hSw
      obtain ⟨hm, _, _⟩ := hSw
      obtain ⟨c0, c1, c2, c3, c4, c5, c6, _⟩ := hm.cells
      go_simp
    simp only [Act.put, List.setIfInBounds_toArray]
    refine rdy1 1 (fun K hK => ?_)
    go_simp
    go_wp2_with ((go_at_call 139; refine (hasFrame_any k0 k1 k2 k3 0 false s _ HSM.out).mono ?_; rw [HX.out]; rintro e w1 ⟨rfl, hb1⟩))
    refine hK.out _ _ ⟨hHeld.1.later hb1 hHeld.1.lt, hHeld.2.1.later hb1 hHeld.2.1.lt, hHeld.2.2.trans (hb1.mono (Nat.le_of_lt hHeld.2.1.lt))⟩ (fun hHeld => ?_)
    clear hK K
    refine tkW (i := 2) (v := .bool true) rfl (Or.inl ⟨by rfl, ?_⟩) hHeld ?_
    · intro w hSw
      go_simp
    simp only [Act.put, List.setIfInBounds_toArray]
    refine tkW (i := 3) (v := .bool true) rfl (Or.inl ⟨by rfl, ?_⟩) hHeld ?_
    · intro w hSw
      go_simp
    simp only [Act.put]
    refine tkW (i := 4) (v := undef) rfl (Or.inr ⟨by rfl, rfl⟩) hHeld ?_
    simp only [Act.put]
    refine tkW (i := 5) (v := undef) rfl (Or.inr ⟨by rfl, rfl⟩) hHeld ?_
    simp only [Act.put]
    refine tkW (i := 6) (v := undef) rfl (Or.inr ⟨by rfl, rfl⟩) hHeld ?_
    simp only [Act.put]
    refine tkW (i := 7) (v := undef) rfl (Or.inr ⟨by rfl, rfl⟩) hHeld ?_
    simp only [Act.put]
    refine tkW (i := 8) (v := undef) rfl (Or.inr ⟨by rfl, rfl⟩) hHeld ?_
    simp only [Act.put]
    refine rdy1 9 (fun K hK => ?_)
    go_simp
    refine hK.out _ _ hHeld (fun hHeld => ?_)
    clear hK K
    refine wpAnyH_done (by kernel_rfl) ?_ _
    go_wp2_with fail
    go_meet
    case rel => exact ⟨by rw [HD.out]; rfl, hHeld.1, hHeld.2.1, hHeld.2.2⟩
   | true =>
    have HX := hide hX
    cases hM : (markOf k0 0 false != k4) with
    | true =>
     have HD : Hid (decB k0 k1 k2 k3 k4 k5 s.size = false) := by
      unfold Hid decB
      rw [EV.out, EN.out]
      simp at hM
      simp [hM]
     clear hX
     refine wp_region_held_drew (S := (fun w' => MsgAt w' g k0 k1 k2 k3 0 false s ∧ MsgAt w' w.heap.size 0 0 0 0 0 false ⟨#[]⟩ ∧ Below w.heap.size w w')) (by kernel_rfl) ⟨HM7.out.drew, HZ7.out.drew, HB7.out.drew⟩ (fun hHeld => ?_)
     refine tkW (i := 0) (v := .agg #[.int .i64 k0, .int .i64 k1, .int .i64 k2, .int .i64 k3, .int .i64 0, .bool false, .string s]) rfl (Or.inl ⟨by rfl, ?_⟩) hHeld ?_
     · intro w hSw
       obtain ⟨hm, _, _⟩ := hSw
       obtain ⟨c0, c1, c2, c3, c4, c5, c6, _⟩ := hm.cells
       go_simp
     simp only [Act.put, List.setIfInBounds_toArray]
     refine rdy1 1 (fun K hK => ?_)
     go_simp
     go_wp2_with ((go_at_call 139; refine (hasFrame_any k0 k1 k2 k3 0 false s _ HSM.out).mono ?_; rw [HX.out]; rintro e w1 ⟨rfl, hb1⟩))
     refine hK.out _ _ ⟨hHeld.1.later hb1 hHeld.1.lt, hHeld.2.1.later hb1 hHeld.2.1.lt, hHeld.2.2.trans (hb1.mono (Nat.le_of_lt hHeld.2.1.lt))⟩ (fun hHeld => ?_)
     clear hK K
     refine tkW (i := 2) (v := .bool false) rfl (Or.inl ⟨by rfl, ?_⟩) hHeld ?_
     · intro w hSw
       go_simp
     simp only [Act.put, List.setIfInBounds_toArray]
     refine tkW (i := 3) (v := .bool false) rfl (Or.inl ⟨by rfl, ?_⟩) hHeld ?_
     · intro w hSw
       go_simp
     simp only [Act.put]
     refine tkW (i := 4) (v := .agg #[.int .i64 k0, .int .i64 k1, .int .i64 k2, .int .i64 k3, .int .i64 0, .bool false, .string s]) rfl (Or.inl ⟨by rfl, ?_⟩) hHeld ?_
     · intro w hSw
       obtain ⟨hm, _, _⟩ := hSw
       obtain ⟨c0, c1, c2, c3, c4, c5, c6, _⟩ := hm.cells
       go_simp
     simp only [Act.put]
     refine tkW (i := 6) (v := .string t) rfl (Or.inl ⟨by rfl, ?_⟩) hHeld ?_
     · intro w hSw
       go_simp
     simp only [Act.put]
     refine tkW (i := 7) (v := .int .u8 k4) rfl (Or.inl ⟨by rfl, ?_⟩) hHeld ?_
     · intro w hSw
       go_simp
     simp only [Act.put]
     refine rdy1 5 (fun K hK => ?_)
     go_simp
     go_wp2_with ((go_at_call 140; refine (wireMark_any k0 k1 k2 k3 0 false s _ HX.out).mono ?_; rintro e w1 ⟨rfl, hb1⟩))
     refine hK.out _ _ ⟨hHeld.1.later hb1 hHeld.1.lt, hHeld.2.1.later hb1 hHeld.2.1.lt, hHeld.2.2.trans (hb1.mono (Nat.le_of_lt hHeld.2.1.lt))⟩ (fun hHeld => ?_)
     clear hK K
     refine tkW (i := 8) (v := .bool true) rfl (Or.inl ⟨by rfl, ?_⟩) hHeld ?_
     · intro w hSw
       go_simp
     simp only [Act.put, List.setIfInBounds_toArray]
     refine rdy1 9 (fun K hK => ?_)
     go_simp
     refine hK.out _ _ hHeld (fun hHeld => ?_)
     clear hK K
     refine wpAnyH_done (by kernel_rfl) ?_ _
     go_wp2_with fail
     go_meet
     case rel => exact ⟨by rw [HD.out]; rfl, hHeld.1, hHeld.2.1, hHeld.2.2⟩
    | false =>
     have HD : Hid (decB k0 k1 k2 k3 k4 k5 s.size = true) := by
      unfold Hid decB
      rw [EV.out, EN.out, hX]
      simp at hM
      simp [hM, H5.out]
     clear hX
     refine wp_region_held_drew (S := (fun w' => MsgAt w' g k0 k1 k2 k3 0 false s ∧ MsgAt w' w.heap.size 0 0 0 0 0 false ⟨#[]⟩ ∧ Below w.heap.size w w')) (by kernel_rfl) ⟨HM7.out.drew, HZ7.out.drew, HB7.out.drew⟩ (fun hHeld => ?_)
     refine tkW (i := 0) (v := .agg #[.int .i64 k0, .int .i64 k1, .int .i64 k2, .int .i64 k3, .int .i64 0, .bool false, .string s]) rfl (Or.inl ⟨by rfl, ?_⟩) hHeld ?_
     · intro w hSw
       obtain ⟨hm, _, _⟩ := hSw
       obtain ⟨c0, c1, c2, c3, c4, c5, c6, _⟩ := hm.cells
       go_simp
     simp only [Act.put, List.setIfInBounds_toArray]
     refine rdy1 1 (fun K hK => ?_)
     go_simp
     go_wp2_with ((go_at_call 139; refine (hasFrame_any k0 k1 k2 k3 0 false s _ HSM.out).mono ?_; rw [HX.out]; rintro e w1 ⟨rfl, hb1⟩))
     refine hK.out _ _ ⟨hHeld.1.later hb1 hHeld.1.lt, hHeld.2.1.later hb1 hHeld.2.1.lt, hHeld.2.2.trans (hb1.mono (Nat.le_of_lt hHeld.2.1.lt))⟩ (fun hHeld => ?_)
     clear hK K
     refine tkW (i := 2) (v := .bool false) rfl (Or.inl ⟨by rfl, ?_⟩) hHeld ?_
     · intro w hSw
       go_simp
     simp only [Act.put, List.setIfInBounds_toArray]
     refine tkW (i := 3) (v := .bool false) rfl (Or.inl ⟨by rfl, ?_⟩) hHeld ?_
     · intro w hSw
       go_simp
     simp only [Act.put]
     refine tkW (i := 4) (v := .agg #[.int .i64 k0, .int .i64 k1, .int .i64 k2, .int .i64 k3, .int .i64 0, .bool false, .string s]) rfl (Or.inl ⟨by rfl, ?_⟩) hHeld ?_
     · intro w hSw
       obtain ⟨hm, _, _⟩ := hSw
       obtain ⟨c0, c1, c2, c3, c4, c5, c6, _⟩ := hm.cells
       go_simp
     simp only [Act.put]
     refine tkW (i := 6) (v := .string t) rfl (Or.inl ⟨by rfl, ?_⟩) hHeld ?_
     · intro w hSw
       go_simp
     simp only [Act.put]
     refine tkW (i := 7) (v := .int .u8 k4) rfl (Or.inl ⟨by rfl, ?_⟩) hHeld ?_
     · intro w hSw
       go_simp
     simp only [Act.put]
     refine rdy1 5 (fun K hK => ?_)
     go_simp
     go_wp2_with ((go_at_call 140; refine (wireMark_any k0 k1 k2 k3 0 false s _ HX.out).mono ?_; rintro e w1 ⟨rfl, hb1⟩))
     refine hK.out _ _ ⟨hHeld.1.later hb1 hHeld.1.lt, hHeld.2.1.later hb1 hHeld.2.1.lt, hHeld.2.2.trans (hb1.mono (Nat.le_of_lt hHeld.2.1.lt))⟩ (fun hHeld => ?_)
     clear hK K
     refine tkW (i := 8) (v := .bool false) rfl (Or.inl ⟨by rfl, ?_⟩) hHeld ?_
     · intro w hSw
       go_simp
     simp only [Act.put, List.setIfInBounds_toArray]
     refine rdy1 9 (fun K hK => ?_)
     go_simp
     refine hK.out _ _ hHeld (fun hHeld => ?_)
     clear hK K
     refine wpAnyH_done (by kernel_rfl) ?_ _
     go_wp2_with fail
     go_meet
     case rel => exact ⟨by rw [HD.out]; rfl, hHeld.1, hHeld.2.1, hHeld.2.2⟩
  case rest =>
   obtain ⟨rfl, hHeld⟩ := hcut
   cases hD : decB k0 k1 k2 k3 k4 k5 s.size with
   | false =>
    have HD := hide hD
    clear hD
    obtain ⟨hm, hz, hB⟩ := hHeld
    obtain ⟨c0, c1, c2, c3, c4, c5, c6, g0, g1, g2, g3, g4, g5, g6⟩ := hm.cells
    obtain ⟨z0, z1, z2, z3, z4, z5, z6, y0, y1, y2, y3, y4, y5, y6⟩ := hz.cells
    have HBF := hide hB
    have hbb := (hB.cell (p := ⟨2, 0, none⟩) (World.block_lt_of_cell? _ _ HBB.out)).trans HBB.out
    have hn1 : ¬ w.heap.size = 2 := by have := World.block_lt_of_cell? _ _ HBB.out; simp at this; omega
    have hn2 : ¬ 2 = w.heap.size := fun e => hn1 e.symm
    clear hm hz hB
    go_wp2
    go_region
    go_wp2
    exact bodyPost_ret (v := .tuple #[.agg #[.int .i64 0, .int .i64 0, .int .i64 0, .int .i64 0, .int .i64 0, .bool false, .string ⟨#[]⟩], .iface 294 (.pointer (some b))]) (by simp [results, Tryz.results102, go_sem, z0, z1, z2, z3, z4, z5, z6]) rfl ⟨form_no HD.out, (below_setAll HBF.out (Nat.le_refl _) _ _ _ _ _ _ _).drew⟩
   | true =>
    have HD := hide hD
    clear hD
    obtain ⟨hm, hz, hB⟩ := hHeld
    obtain ⟨c0, c1, c2, c3, c4, c5, c6, g0, g1, g2, g3, g4, g5, g6⟩ := hm.cells
    obtain ⟨z0, z1, z2, z3, z4, z5, z6, y0, y1, y2, y3, y4, y5, y6⟩ := hz.cells
    have HBF := hide hB
    clear hm hz hB
    go_wp2
    exact bodyPost_ret (v := .tuple #[.agg #[.int .i64 k0, .int .i64 k1, .int .i64 k2, .int .i64 k3, .int .i64 0, .bool false, .string s], .nilIface]) (by simp [results, Tryz.results102, go_sem, z0, z1, z2, z3, z4, z5, z6]) rfl ⟨form_yes HD.out EV.out EN.out, below_setAll HBF.out (Nat.le_refl _) _ _ _ _ _ _ _⟩

end Go.Proofs.YtcfjhbcpjpgodaaGreatDoor
