/- Proved here: what the document's Behind answers for a registry and a text. · Proved here: powers and roles stay 0 to 9; the document's Genesis and Behind, their answers named. -/
import Derived.Test.YtcfjhbcpjpgodaaDoorJ18
import Derived.Test.YtcfjhbcpjpgodaaDoorJ19
import Derived.Test.YtcfjhbcpjpgodaaDoorJ20
namespace Go.Proofs.YtcfjhbcpjpgodaaDoor
open Go.RowKit

/-- The registry behind records, one after another; false: the last of them may not be. -/
def behindL : (Nat → Int) → List ByteArray → (Nat → Int) × Bool
  | x, [] => (x, true)
  | x, t :: l => if (nextT x t).2 then behindL (nextT x t).1 l else ((nextT x t).1, false)
/-- Going on from here. -/
def goOn (y : Nat → Int) (o : Bool) (l : List ByteArray) : (Nat → Int) × Bool := if o then behindL y l else (y, false)
/-- The registry behind a block; false: it is not good. -/
def behindR (x : Nat → Int) (b : ByteArray) : (Nat → Int) × Bool := goOn x (splitR b).2 (splitR b).1

theorem goOn_nil (y : Nat → Int) (o : Bool) : goOn y o [] = (y, o) := by cases o <;> rfl
theorem goOn_no (y : Nat → Int) (l : List ByteArray) : goOn y false l = (y, false) := rfl
theorem goOn_step (y : Nat → Int) (l : List ByteArray) (k : Nat) (hk : k < l.length) : goOn y true (l.drop k) = goOn (nextT y (l.getD k ByteArray.empty)).1 (nextT y (l.getD k ByteArray.empty)).2 (l.drop (k + 1)) := by
  have e : l.drop k = l.getD k ByteArray.empty :: l.drop (k + 1) := by
    rw [List.drop_eq_getElem_cons hk, List.getD_eq_getElem?_getD, List.getElem?_eq_getElem hk]
    rfl
  rw [e]
  rfl

theorem splitR_form (b : ByteArray) (k : Nat) (hk : k < (splitR b).1.length) : formB ((splitR b).1.getD k ByteArray.empty) = true := by
  unfold splitR at hk ⊢
  split at hk
  · simp at hk
  · rename_i h0
    rw [if_neg h0]
    split at hk
    · rename_i h1
      rw [if_pos h1]
      simp only at hk ⊢
      rw [List.getD_eq_getElem?_getD, List.getElem?_eq_getElem hk]
      exact List.all_eq_true.1 h1 _ (List.getElem_mem hk)
    · simp at hk

theorem split_at (b : ByteArray) (l : List ByteArray) (o : Bool) (w : World) (hs : b.size < 4294967281) (h : splitR b = (l, o)) :
    Calls Tryd.prog 63 #[.string b] w fun e w' => ∃ p cap, e = .returned (.tuple #[.slice p l.length cap, .bool o]) ∧ l.length ≤ maxLen ∧ Lies w' w'.heap.size p l.length (fun i => .string (l.getD i ByteArray.empty)) ∧ Below w.heap.size w w' := by
  refine (split_any b w hs).mono ?_
  rintro e w' ⟨v, rfl, ho, hb⟩
  rw [h] at ho
  obtain ⟨p, cap, rfl, hm, hl⟩ := own_lies ho
  exact ⟨p, cap, by rw [h], hm, hl, hb⟩

set_option maxRecDepth 100000 in
set_option maxHeartbeats 3200000 in
theorem behind_any (x : Nat → Int) (b : ByteArray) (w : World) (hx : Dom x) (hs : b.size < 4294967281) :
    Calls Tryd.prog 42 #[.agg (regA x), .string b] w fun e w' => e = .returned (.tuple #[.agg (regA (behindR x b).1), .bool (behindR x b).2]) ∧ Below w.heap.size w w' := by
  obtain ⟨l, hl⟩ : ∃ l, l = (splitR b).1 := ⟨_, rfl⟩
  obtain ⟨o0, ho0⟩ : ∃ o, o = (splitR b).2 := ⟨_, rfl⟩
  have HS : Hid (splitR b = (l, o0)) := by unfold Hid; rw [hl, ho0]
  have HF : Hid (∀ k, k < l.length → formB (l.getD k ByteArray.empty) = true) := by unfold Hid; rw [hl]; exact splitR_form b
  have HG : Hid (behindR x b = goOn x o0 l) := by unfold Hid behindR; rw [← hl, ← ho0]
  have HX := hide hx
  clear hx hl ho0
  have z0 := regA_zero
  have hr0 : RegAt ((w.alloc (.cells (regA x) 54)).alloc (.cells (regA reg0) 54)) w.heap.size 54 x := (RegAt.alloc w 54 x).below ((Below.refl _ _).alloc (Nat.le_refl _) _)
  have hr1 : RegAt ((w.alloc (.cells (regA x) 54)).alloc (.cells (regA reg0) 54)) (w.heap.size + 1) 54 reg0 := by
    have h := RegAt.alloc (w.alloc (.cells (regA x) 54)) 54 reg0
    simpa using h
  have HR0 := hide hr0
  have HR1 := hide hr1
  clear hr0 hr1
  go_enter Tryd.func42, Tryd.ntmps42
  go_wp2_with fail
  refine (split_at b l o0 _ hs HS.out).mono ?_
  rintro e w1 ⟨p, cap, rfl, hm, hlies, hb1⟩
  have HR0' := hide (HR0.out.below hb1)
  have HR1' := hide (HR1.out.below hb1)
  have HW1 : Hid (Below w.heap.size w w1) := (((Below.refl _ w).alloc (Nat.le_refl _) _).alloc (by simp) _).trans (hb1.mono (by simp; omega))
  have HL := hide hlies
  have HM := hide hm
  have hsz : w.heap.size + 1 + 1 ≤ w1.heap.size := by have := hb1.size; simpa using this
  clear hb1 hlies hm HR0 HR1
  go_wp2_with (first | (refine wpList_load_reg rfl 54 _ rfl _ rfl 54 x _ HR0'.out Tryd.underlying54 rfl Tryd.sizeReg ?_) | (refine wpList_store_reg rfl 54 _ _ rfl w1.heap.size x rfl rfl 54 (regA reg0) (heap_alloc_new w1 _) (regA_size _) Tryd.sizeReg ?_; intro w2 hq ho))
  have HQ := hide hq
  have HB2 : Hid (Below w1.heap.size w1 w2) := ((Below.refl _ w1).alloc (Nat.le_refl _) _).trans (ho.below (Nat.le_refl _))
  clear hq ho HR0'
  go_loopw [7, 9] (fun ok i wr => ∃ (k : Nat) (y : Nat → Int) (o : Bool), k ≤ l.length ∧ i = .int .i64 k ∧ ok = .bool o ∧ Dom y ∧ RegAt wr w1.heap.size 54 y ∧ Below w1.heap.size w1 wr ∧ behindR x b = goOn y o (l.drop k)) (fun _ i _ => l.length - (intOf i).toNat)
  case atStart => exact ⟨0, x, o0, Nat.zero_le _, rfl, rfl, HX.out, HQ.out, HB2.out, HG.out⟩
  case round =>
    clear HQ HB2
    obtain ⟨k, y, o, hk, rfl, rfl, hdy, hy, hbw, hg⟩ := hrel
    have HDY := hide hdy
    have HY := hide hy
    have HBW := hide hbw
    have HGW := hide hg
    have HR1'' := hide (HR1'.out.below (HBW.out))
    have HBB := hide (HW1.out.trans (hbw.mono HW1.out.size))
    clear hdy hy hbw hg
    by_cases hend : k = l.length ∨ o = false
    · have HE : Hid (behindR x b = (y, o)) := by
        unfold Hid
        rw [HGW.out]
        rcases hend with h | h
        · rw [h, List.drop_length, goOn_nil]
        · rw [h, goOn_no]
      rcases hend with h | h
      · subst h
        go_wp2_with (first | (refine wpList_load_reg rfl 54 _ rfl _ rfl 54 y _ HY.out Tryd.underlying54 rfl Tryd.sizeReg ?_) | (refine wpList_store_reg rfl 54 _ _ rfl (w.heap.size + 1) y rfl rfl 54 (regA reg0) HR1''.out (regA_size _) Tryd.sizeReg ?_; intro w2 hq ho))
        exact bodyPost_ret (v := .tuple #[.agg (regA y), .bool o]) (results_reg2 Tryd.results42 _ _ (w.heap.size + 1) 54 y _ _ rfl rfl hq Tryd.underlying54 rfl Tryd.sizeReg) rfl ⟨by rw [HE.out], HBB.out.trans (ho.below (by omega))⟩
      · subst h
        by_cases hkn : (k : Int) < l.length
        · go_wp2_with (first | (refine wpList_load_reg rfl 54 _ rfl _ rfl 54 y _ HY.out Tryd.underlying54 rfl Tryd.sizeReg ?_) | (refine wpList_store_reg rfl 54 _ _ rfl (w.heap.size + 1) y rfl rfl 54 (regA reg0) HR1''.out (regA_size _) Tryd.sizeReg ?_; intro w2 hq ho))
          exact bodyPost_ret (v := .tuple #[.agg (regA y), .bool false]) (results_reg2 Tryd.results42 _ _ (w.heap.size + 1) 54 y _ _ rfl rfl hq Tryd.underlying54 rfl Tryd.sizeReg) rfl ⟨by rw [HE.out], HBB.out.trans (ho.below (by omega))⟩
        · go_wp2_with (first | (refine wpList_load_reg rfl 54 _ rfl _ rfl 54 y _ HY.out Tryd.underlying54 rfl Tryd.sizeReg ?_) | (refine wpList_store_reg rfl 54 _ _ rfl (w.heap.size + 1) y rfl rfl 54 (regA reg0) HR1''.out (regA_size _) Tryd.sizeReg ?_; intro w2 hq ho))
          exact bodyPost_ret (v := .tuple #[.agg (regA y), .bool false]) (results_reg2 Tryd.results42 _ _ (w.heap.size + 1) 54 y _ _ rfl rfl hq Tryd.underlying54 rfl Tryd.sizeReg) rfl ⟨by rw [HE.out], HBB.out.trans (ho.below (by omega))⟩
    · obtain ⟨hkn, ho⟩ : k < l.length ∧ o = true := by
        cases o
        · exact absurd (Or.inr rfl) hend
        · exact ⟨by rcases Nat.lt_or_ge k l.length with h | h; exact h; exact absurd (Or.inl (by omega)) hend, rfl⟩
      subst ho
      clear hend
      obtain ⟨bl, ol, rfl, hbl, hc⟩ := HL.out k hkn
      have hkn2 : (k : Int) < l.length := by omega
      obtain ⟨t, ht⟩ : ∃ t, t = l.getD k ByteArray.empty := ⟨_, rfl⟩
      have HFT : Hid (formB t = true) := by unfold Hid; rw [ht]; exact HF.out k hkn
      have hcr : wr.cell? ⟨bl, ol + k, none⟩ = some (.string t) := by rw [ht]; exact (HBW.out.cell (p := ⟨bl, ol + k, none⟩) (by exact hbl)).trans hc
      have HGN : Hid (behindR x b = goOn (nextT y t).1 (nextT y t).2 (l.drop (k + 1))) := by unfold Hid; rw [HGW.out, goOn_step y l k hkn, ht]
      have hmx : l.length ≤ 9223372036854775807 := by have := HM.out; unfold maxLen at this; omega
      clear ht hc
      go_wp2_with fail
      refine wp_region_held_drew (S := fun W => W.cell? ⟨bl, ol + k, none⟩ = some (.string t)) (by kernel_rfl) hcr (fun hHeld => ?_)
      refine takeD 1 (some 27) (.slice (some ⟨bl, ol, none⟩) l.length cap) rfl rfl (by kernel_rfl) (by kernel_rfl) (by kernel_rfl) (fun _ _ _ h => h) (Or.inl ⟨by rfl, ?_⟩) hHeld ?_
      · intro w hSw
        go_simp
      simp only [Act.put, List.setIfInBounds_toArray, List.set_cons_zero, List.set_cons_succ]
      refine takeD 2 (some 28) (.int .i64 (k : Int)) rfl rfl (by kernel_rfl) (by kernel_rfl) (by kernel_rfl) (fun _ _ _ h => h) (Or.inl ⟨by rfl, ?_⟩) hHeld ?_
      · intro w hSw
        go_simp
      simp only [Act.put, List.setIfInBounds_toArray, List.set_cons_zero, List.set_cons_succ]
      refine takeD 3 (some 29) (.pointer (some ⟨bl, ol + k, none⟩)) rfl rfl (by kernel_rfl) (by kernel_rfl) (by kernel_rfl) (fun _ _ _ h => h) (Or.inl ⟨by rfl, ?_⟩) hHeld ?_
      · intro w hSw
        go_simp
      simp only [Act.put, List.setIfInBounds_toArray, List.set_cons_zero, List.set_cons_succ]
      refine takeD 4 (some 30) (.string t) rfl rfl (by kernel_rfl) (by kernel_rfl) (by kernel_rfl) (fun _ _ _ h => h) (Or.inl ⟨by rfl, ?_⟩) hHeld ?_
      · intro w hSw
        go_simp
      simp only [Act.put, List.setIfInBounds_toArray, List.set_cons_zero, List.set_cons_succ]
      refine wpAnyH_ready (rs := [0]) (by kernel_rfl) (by simp) ?_
      refine AllReadyH.cons rfl (fun K hK => ?_) AllReadyH.nil
      rw [if_pos (by rfl)]
      refine wp_load_row 54 _ rfl w1.heap.size rfl 54 (regA y) (0, 0) _ HY.out.drew Tryd.underlying54 rfl (by rw [regA_size]; exact Tryd.sizeReg) ?_
      refine hK.out _ _ hHeld (fun hHeld => ?_)
      clear hK K
      refine wpAnyH_ready (rs := [5]) (by kernel_rfl) (by simp) ?_
      refine AllReadyH.cons rfl (fun K hK => ?_) AllReadyH.nil
      go_simp
      go_wp2_with ((go_at_call 64; refine (next_any y t _ HDY.out HFT.out).mono ?_; rintro e w3 ⟨rfl, hb3⟩))
      have HB3 := hide hb3
      clear hb3
      refine hK.out _ _ ((HB3.out.cell (p := ⟨bl, ol + k, none⟩) (by have := HBW.out.size; exact Nat.lt_of_lt_of_le hbl this)).trans hHeld) (fun hHeld => ?_)
      clear hK K
      refine takeD 6 (some 25) (.tuple #[.agg (regA (nextT y t).1), .bool (nextT y t).2]) rfl rfl (by kernel_rfl) (by kernel_rfl) (by kernel_rfl) (fun _ _ _ h => h) (Or.inl ⟨by rfl, ?_⟩) hHeld ?_
      · intro w hSw
        go_simp
      simp only [Act.put, List.setIfInBounds_toArray, List.set_cons_zero, List.set_cons_succ]
      refine takeD 7 (some 32) (.agg (regA (nextT y t).1)) rfl rfl (by kernel_rfl) (by kernel_rfl) (by kernel_rfl) (fun _ _ _ h => h) (Or.inl ⟨by rfl, ?_⟩) hHeld ?_
      · intro w hSw
        go_simp
      simp only [Act.put, List.setIfInBounds_toArray, List.set_cons_zero, List.set_cons_succ]
      refine takeD 8 (some 33) (.bool (nextT y t).2) rfl rfl (by kernel_rfl) (by kernel_rfl) (by kernel_rfl) (fun _ _ _ h => h) (Or.inl ⟨by rfl, ?_⟩) hHeld ?_
      · intro w hSw
        go_simp
      simp only [Act.put, List.setIfInBounds_toArray, List.set_cons_zero, List.set_cons_succ]
      refine wpAnyH_ready (rs := [9]) (by kernel_rfl) (by simp) ?_
      refine AllReadyH.cons rfl (fun K hK => ?_) AllReadyH.nil
      rw [if_pos (by rfl)]
      refine wp_store_reg 54 _ _ rfl w1.heap.size (nextT y t).1 rfl rfl 54 (regA y) (HY.out.drew.below HB3.out) (regA_size _) Tryd.sizeReg ?_
      intro w4 hq ho
      have HQ := hide hq
      have HO4 := hide ho
      clear hq ho
      refine hK.out _ _ ((HO4.out.cell (p := ⟨bl, ol + k, none⟩) (by show bl ≠ w1.heap.size; omega)).trans hHeld) (fun hHeld => ?_)
      clear hK K
      refine wpAnyH_ready (rs := [10]) (by kernel_rfl) (by simp) ?_
      refine AllReadyH.cons rfl (fun K hK => ?_) AllReadyH.nil
      go_simp
      refine hK.out _ _ hHeld (fun hHeld => ?_)
      clear hK K
      refine wpAnyH_done (by kernel_rfl) ?_ _
      go_wp2
      go_roundw
      case rel => exact ⟨k + 1, (nextT y t).1, (nextT y t).2, by omega, by go_num, rfl, HDY.out.next HFT.out, HQ.out, (HBW.out.drew.trans (HB3.out.mono (by have := HBW.out.size; exact this))).trans (HO4.out.below (Nat.le_refl _)), HGN.out⟩
      case measure => simp [intOf]; omega

end Go.Proofs.YtcfjhbcpjpgodaaDoor
namespace Go.Proofs.YtcfjhbcpjpgodaaDoor
open Go.RowKit

theorem Dom.zero : Dom reg0 := fun _ => by simp [reg0]
theorem Dom.gen (g : Nat → Int) (n : Nat) : Dom (genR g n).1 := by
  unfold genR
  split
  · rename_i h
    intro i
    simp only [regOf]
    split
    · exact h.2 i (by assumption)
    · omega
  · exact Dom.zero
theorem Dom.behindL : ∀ (l : List ByteArray) (x : Nat → Int), Dom x → (∀ t ∈ l, formB t = true) → Dom (behindL x l).1
  | [], x, h, _ => h
  | t :: l, x, h, hl => by
    unfold Go.Proofs.YtcfjhbcpjpgodaaDoor.behindL
    split
    · exact Dom.behindL l _ (h.next (hl t (by simp))) (fun t ht => hl t (by simp [ht]))
    · exact h.next (hl t (by simp))
theorem Dom.behind {x : Nat → Int} (b : ByteArray) (h : Dom x) : Dom (behindR x b).1 := by
  unfold behindR goOn
  split
  · refine Dom.behindL _ x h (fun t ht => ?_)
    obtain ⟨k, hk, rfl⟩ := List.getElem_of_mem ht
    have := splitR_form b k hk
    rw [List.getD_eq_getElem?_getD, List.getElem?_eq_getElem hk] at this
    exact this
  · exact h

theorem behind_at (x : Nat → Int) (b : ByteArray) (z : Nat → Int) (o : Bool) (w : World) (hx : Dom x) (hs : b.size < 4294967281) (h : behindR x b = (z, o)) :
    Calls Tryd.prog 42 #[.agg (regA x), .string b] w fun e w' => e = .returned (.tuple #[.agg (regA z), .bool o]) ∧ Below w.heap.size w w' := by
  have := behind_any x b w hx hs
  rw [h] at this
  exact this

theorem genesis_at (g : Nat → Int) (p : Option Addr) (n cap : Nat) (z : Nat → Int) (o : Bool) (w : World) (hl : Lies w w.heap.size p n (fun i => .int .i64 (g i))) (h : genR g n = (z, o)) :
    Calls Tryd.prog 27 #[.slice p n cap] w fun e w' => e = .returned (.tuple #[.agg (regA z), .bool o]) ∧ Below w.heap.size w w' := by
  have := genesis_any g p n cap w hl
  rw [h] at this
  exact this

end Go.Proofs.YtcfjhbcpjpgodaaDoor
