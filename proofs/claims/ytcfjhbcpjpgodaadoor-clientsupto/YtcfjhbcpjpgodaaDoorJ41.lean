/- Proved here: what the law's texts makes of a list of texts: a copy with eight marks behind it. · Proved here: the law's keptTexts says yes where a copy with marks reads as it was made. · Proved here: a copy of a list of texts with room behind it, made ready for the look that follows. · Proved here: a copy of a list of texts with room behind it, made ready for the look that follows; what kind of slice it is. -/
import Derived.Test.YtcfjhbcpjpgodaaDoorBase
namespace Go.Proofs.YtcfjhbcpjpgodaaDoor
open Go.RowKit

set_option maxRecDepth 100000 in
theorem texts_nil (w : World) :
    Calls Tryd.prog 15 #[.slice none 0 0] w fun e w' => e = .returned (.slice none 0 0) ∧ w' = w := by
  have hnl : ∀ W : World, (binOp .eql 39 (.slice none 0 0) (.slice none 0 0)).run Tryd.prog W = .ok (.bool true) W := fun W => eql_nil _ _ Tryd.underlying39 _ _ _ W
  go_enter Tryd.func15, Tryd.ntmps15
  go_wp2
  go_ret
  exact ⟨rfl, rfl⟩

set_option maxRecDepth 100000 in
set_option maxHeartbeats 3200000 in
theorem texts_any (g : Nat → ByteArray) (b o n cap : Nat) (w : World) (hn : n ≤ 1099511627776) (hl : Lies w w.heap.size (some ⟨b, o, none⟩) n (fun i => .string (g i))) :
    Calls Tryd.prog 15 #[.slice (some ⟨b, o, none⟩) n cap] w fun e w' => (∃ gb c, e = .returned (.slice (some ⟨gb, 0, none⟩) n c) ∧ w'.ownsRow w.heap.size 9 1 (.slice (some ⟨gb, 0, none⟩) (n + 8) c) (n + 8) (roomL (fun i => .string (g i)) n (.string ⟨#[126]⟩))) ∧ Below w.heap.size w w' := by
  obtain ⟨i3, hi, hz0, hz1, hz2⟩ := info_parts Tryd.infoString
  have HN : Hid (∀ j u, ((List.range n).map fun i => Value.string (g i))[j]? = some u → w.cell? ((⟨b, o, none⟩ : Addr).add j) = some u) := fun j u hj => by
    by_cases h : j < n
    · obtain ⟨b', o', e, _, hc⟩ := hl j h
      cases e
      simp [h] at hj
      subst hj
      rw [addr_add]
      exact hc
    · rw [List.getElem?_eq_none (by simp; omega)] at hj
      cases hj
  have HO : Hid (∀ u ∈ (List.range n).map fun i => Value.string (g i), u.oneCell' = true) := fun u hu => by
    simp only [List.mem_map] at hu
    obtain ⟨i, _, rfl⟩ := hu
    rfl
  clear hl
  have hnl : ∀ W : World, (binOp .eql 39 (.slice (some ⟨b, o, none⟩) n cap) (.slice none 0 0)).run Tryd.prog W = .ok (.bool false) W := fun W => eql_nil _ _ Tryd.underlying39 _ _ _ W
  go_enter Tryd.func15, Tryd.ntmps15
  go_wp2_with (first
    | (at_builtin; refine wpList_append_own _ rfl (.const (.slice none 0 0)) (.tmp 5) 39 rfl w.heap.size 9 i3 (.string ByteArray.empty) 1 16 Tryd.underlying39 hi hz0 hz1 hz2 rfl (by decide) _ 0 [] rfl (World.ownsRow_nil _ _ _ _) ⟨b, o, none⟩ n cap ((List.range n).map fun i => .string (g i)) rfl (by simp) HN.out HO.out (by unfold maxLen; omega) (by omega) (Nat.le_refl _) ?_; intro v1 w1 hown1 hgrow1 hnil1)
    | (at_builtin; refine wpList_append_own _ rfl (.tmp 6) (.tmp 7) 39 rfl w.heap.size 9 i3 (.string ByteArray.empty) 1 16 Tryd.underlying39 hi hz0 hz1 hz2 rfl (by decide) v1 (0 + n) _ rfl (hown1.alloc _) ⟨w1.heap.size, 0, none⟩ 8 8 (List.replicate 8 (.string ⟨#[126]⟩)) rfl rfl ?c1 ?c2 (by unfold maxLen; omega) (by omega) (by have := hgrow1.size; simp; omega) ?_)
    | go_in)
  case c1 =>
    intro j u hj
    match j, hj with
    | 0, hj | 1, hj | 2, hj | 3, hj | 4, hj | 5, hj | 6, hj | 7, hj => simp at hj; subst hj; rw [addr_add, cell_of_row _ _ _ _ _ _ (heap_alloc_new w1 _)]; rfl
    | j + 8, hj => simp at hj
  case c2 =>
    intro u hu
    have := List.eq_of_mem_replicate hu
    subst this
    rfl
  intro v2 w2 hown2 hgrow2 _
  have HB : Hid (Below w.heap.size w w2) := (((Below.refl _ w).grown hgrow1 (Nat.le_refl _) (fun k hk => by cases hk)).alloc hgrow1.size _).grown hgrow2 (by have := hgrow1.size; simp; omega) (fun k hk => (hown1.lt k hk).1)
  have HO2 : Hid (w2.ownsRow w.heap.size 9 1 v2 (n + 8) (roomL (fun i => .string (g i)) n (.string ⟨#[126]⟩))) := hown2
  rcases hown2.2 with ⟨_, h0⟩ | ⟨gb, c, cur, rfl, _, _, hnc, hcm, _, _⟩
  · omega
  · have hc1 : (n : Int) ≤ c := by omega
    have hc2 : n ≤ c := by omega
    clear hown1 hgrow1 hgrow2 hown2 hnil1 hnl
    go_wp2
    go_ret
    exact ⟨⟨gb, c, rfl, HO2.out⟩, HB.out⟩

end Go.Proofs.YtcfjhbcpjpgodaaDoor
namespace Go.Proofs.YtcfjhbcpjpgodaaDoor
open Go.RowKit

set_option maxRecDepth 100000 in
theorem keptTexts_nil (w : World) :
    Calls Tryd.prog 21 #[.slice none 0 0, .slice none 0 0] w fun e w' => e = .returned (.bool true) ∧ w' = w := by
  have hnl : ∀ W : World, (binOp .eql 39 (.slice none 0 0) (.slice none 0 0)).run Tryd.prog W = .ok (.bool true) W := fun W => eql_nil _ _ Tryd.underlying39 _ _ _ W
  go_enter Tryd.func21, Tryd.ntmps21
  go_wp2
  go_ret
  exact ⟨rfl, rfl⟩

set_option maxRecDepth 100000 in
set_option maxHeartbeats 3200000 in
theorem keptTexts_any (g : Nat → ByteArray) (b o n cap gb c : Nat) (w : World) (hn : n ≤ 1099511627776) (hc : n + 8 ≤ c) (hl : Lies w w.heap.size (some ⟨b, o, none⟩) n (fun i => .string (g i)))
    (hr : ∀ i, i < n + 8 → w.cell? ⟨gb, i, none⟩ = some (if i < n then .string (g i) else .string ⟨#[126]⟩)) :
    Calls Tryd.prog 21 #[.slice (some ⟨gb, 0, none⟩) n c, .slice (some ⟨b, o, none⟩) n cap] w fun e w' => e = .returned (.bool true) ∧ w' = w := by
  have hnl : ∀ W : World, (binOp .eql 39 (.slice (some ⟨b, o, none⟩) n cap) (.slice none 0 0)).run Tryd.prog W = .ok (.bool false) W := fun W => eql_nil _ _ Tryd.underlying39 _ _ _ W
  have HL := hide hl
  have HR := hide hr
  clear hl hr
  go_enter Tryd.func21, Tryd.ntmps21
  go_wp2
  clear hnl
  go_loop [6, 7] (fun i _ => ∃ k : Nat, k ≤ n + 8 ∧ i = .int .i64 k) (fun i _ => n + 8 - (intOf i).toNat)
  case atStart => exact ⟨0, by omega, rfl⟩
  case round =>
    obtain ⟨k, hk, rfl⟩ := hrel
    by_cases hkn : k = n + 8
    · have hk1 : ¬ (k : Int) < n + 8 := by omega
      have hk2 : ¬ k < n + 8 := by omega
      clear hkn
      go_wp2
      go_ret
      exact ⟨rfl, rfl⟩
    · have hlt : k < n + 8 := by omega
      have hk1 : (k : Int) < n + 8 := by omega
      have hr1 := HR.out k hlt
      by_cases hin : k < n
      · have hin2 : (k : Int) < n := by omega
        rw [if_pos hin] at hr1
        obtain ⟨b', o', e, _, hc1⟩ := HL.out k hin
        cases e
        clear hkn
        go_wp2
        go_round
        case rel => exact ⟨k + 1, by omega, by go_num⟩
        case measure => simp [intOf]; omega
      · have hin2 : ¬ (k : Int) < n := by omega
        rw [if_neg hin] at hr1
        clear hkn
        go_wp2
        go_round
        case rel => exact ⟨k + 1, by omega, by go_num⟩
        case measure => simp [intOf]; omega

end Go.Proofs.YtcfjhbcpjpgodaaDoor
namespace Go.Proofs.YtcfjhbcpjpgodaaDoor
open Go.RowKit

theorem own_room {w : World} {base e n gb c : Nat} {f : Nat → Value} {m : Value} (h : w.ownsRow base e 1 (.slice (some ⟨gb, 0, none⟩) (n + 8) c) (n + 8) (roomL f n m)) :
    n + 8 ≤ c ∧ gb < w.heap.size ∧ ∀ i, i < n + 8 → w.cell? ⟨gb, i, none⟩ = some (if i < n then f i else m) := by
  rcases h.2 with ⟨e0, _⟩ | ⟨g, cap, cur, e0, hb, hg, hnc, hcm, hcs, ht⟩
  · cases e0
  · cases e0
    refine ⟨hnc, row_lt0 hg, fun i hi => ?_⟩
    rw [cell_of_row w gb i _ _ _ hg]
    have e1 : (cur.toList.take ((n + 8) * 1))[i]? = (roomL f n m)[i]? := by rw [ht]
    rw [List.getElem?_take, if_pos (by omega), roomL_get _ _ _ _ hi] at e1
    rw [← Array.getElem?_toList, e1]

theorem texts_ready (g : Nat → ByteArray) (p : Option Addr) (n cap : Nat) (w : World) (hn : n ≤ 1099511627776) (hp : NilOr p n cap) (hl : Lies w w.heap.size p n (fun i => .string (g i))) :
    Calls Tryd.prog 15 #[.slice p n cap] w fun e w' => (∃ gp gc, e = .returned (.slice gp n gc) ∧ Lies w' w'.heap.size gp n (fun i => .string (g i)) ∧
      ∀ W' : World, Below w'.heap.size w' W' → Calls Tryd.prog 21 #[.slice gp n gc, .slice p n cap] W' fun e w3 => e = .returned (.bool true) ∧ w3 = W') ∧ Below w.heap.size w w' := by
  rcases hp with ⟨rfl, rfl, rfl⟩ | ⟨b, o, rfl⟩
  · refine (texts_nil w).mono ?_
    rintro e w' ⟨rfl, rfl⟩
    exact ⟨⟨none, 0, rfl, fun i hi => by omega, fun W' _ => keptTexts_nil W'⟩, Below.refl _ _⟩
  · refine (texts_any g b o n cap w hn hl).mono ?_
    rintro e w' ⟨⟨gb, c, rfl, ho⟩, hb⟩
    obtain ⟨hc, hgl, hcell⟩ := own_room ho
    refine ⟨⟨some ⟨gb, 0, none⟩, c, rfl, fun i hi => ⟨gb, 0, rfl, hgl, ?_⟩, fun W' hW => ?_⟩, hb⟩
    · rw [Nat.zero_add, hcell i (by omega), if_pos hi]
    · exact keptTexts_any g b o n cap gb c W' hn hc ((hl.below (hb.trans (hW.mono hb.size))).more (Nat.le_trans hb.size hW.size)) (fun i hi => by
        rw [hW.cell (p := ⟨gb, i, none⟩) (by exact hgl), hcell i hi])

end Go.Proofs.YtcfjhbcpjpgodaaDoor
namespace Go.Proofs.YtcfjhbcpjpgodaaDoor
open Go.RowKit

theorem texts_readyN (g : Nat → ByteArray) (p : Option Addr) (n cap : Nat) (w : World) (hn : n ≤ 1099511627776) (hp : NilOr p n cap) (hl : Lies w w.heap.size p n (fun i => .string (g i))) :
    Calls Tryd.prog 15 #[.slice p n cap] w fun e w' => (∃ gp gc, e = .returned (.slice gp n gc) ∧ NilOr gp n gc ∧ Lies w' w'.heap.size gp n (fun i => .string (g i)) ∧
      ∀ W' : World, Below w'.heap.size w' W' → Calls Tryd.prog 21 #[.slice gp n gc, .slice p n cap] W' fun e w3 => e = .returned (.bool true) ∧ w3 = W') ∧ Below w.heap.size w w' := by
  rcases hp with ⟨rfl, rfl, rfl⟩ | ⟨b, o, rfl⟩
  · refine (texts_nil w).mono ?_
    rintro e w' ⟨rfl, rfl⟩
    exact ⟨⟨none, 0, rfl, Or.inl ⟨rfl, rfl, rfl⟩, fun i hi => by omega, fun W' _ => keptTexts_nil W'⟩, Below.refl _ _⟩
  · refine (texts_any g b o n cap w hn hl).mono ?_
    rintro e w' ⟨⟨gb, c, rfl, ho⟩, hb⟩
    obtain ⟨hc, hgl, hcell⟩ := own_room ho
    refine ⟨⟨some ⟨gb, 0, none⟩, c, rfl, Or.inr ⟨gb, 0, rfl⟩, fun i hi => ⟨gb, 0, rfl, hgl, ?_⟩, fun W' hW => ?_⟩, hb⟩
    · rw [Nat.zero_add, hcell i (by omega), if_pos hi]
    · exact keptTexts_any g b o n cap gb c W' hn hc ((hl.below (hb.trans (hW.mono hb.size))).more (Nat.le_trans hb.size hW.size)) (fun i hi => by
        rw [hW.cell (p := ⟨gb, i, none⟩) (by exact hgl), hcell i hi])

end Go.Proofs.YtcfjhbcpjpgodaaDoor
