/- Proved here: what the law's roomy makes of a list of numbers: a copy with eight marks behind it. -/
import Derived.Test.YtcfjhbcpjpgodaaDoorBase
namespace Go.Proofs.YtcfjhbcpjpgodaaDoor
open Go.RowKit

set_option maxRecDepth 100000 in
theorem roomy_nil (w : World) :
    Calls Tryd.prog 14 #[.slice none 0 0] w fun e w' => e = .returned (.slice none 0 0) ∧ w' = w := by
  have hnl : ∀ W : World, (binOp .eql 38 (.slice none 0 0) (.slice none 0 0)).run Tryd.prog W = .ok (.bool true) W := fun W => eql_nil _ _ Tryd.underlying38 _ _ _ W
  go_enter Tryd.func14, Tryd.ntmps14
  go_wp2
  go_ret
  exact ⟨rfl, rfl⟩

set_option maxRecDepth 100000 in
set_option maxHeartbeats 3200000 in
theorem roomy_any (g : Nat → Int) (b o n cap : Nat) (w : World) (hn : n ≤ 1099511627776) (hl : Lies w w.heap.size (some ⟨b, o, none⟩) n (fun i => .int .i64 (g i))) :
    Calls Tryd.prog 14 #[.slice (some ⟨b, o, none⟩) n cap] w fun e w' => (∃ gb c, e = .returned (.slice (some ⟨gb, 0, none⟩) n c) ∧ w'.ownsRow w.heap.size 3 1 (.slice (some ⟨gb, 0, none⟩) (n + 8) c) (n + 8) (roomL (fun i => .int .i64 (g i)) n (.int .i64 (-77)))) ∧ Below w.heap.size w w' := by
  obtain ⟨i3, hi, hz0, hz1, hz2⟩ := info_parts Tryd.infoInt
  have HN : Hid (∀ j u, ((List.range n).map fun i => Value.int .i64 (g i))[j]? = some u → w.cell? ((⟨b, o, none⟩ : Addr).add j) = some u) := fun j u hj => by
    by_cases h : j < n
    · obtain ⟨b', o', e, _, hc⟩ := hl j h
      cases e
      simp [h] at hj
      subst hj
      rw [addr_add]
      exact hc
    · rw [List.getElem?_eq_none (by simp; omega)] at hj
      cases hj
  have HO : Hid (∀ u ∈ (List.range n).map fun i => Value.int .i64 (g i), u.oneCell' = true) := fun u hu => by
    simp only [List.mem_map] at hu
    obtain ⟨i, _, rfl⟩ := hu
    rfl
  clear hl
  have hnl : ∀ W : World, (binOp .eql 38 (.slice (some ⟨b, o, none⟩) n cap) (.slice none 0 0)).run Tryd.prog W = .ok (.bool false) W := fun W => eql_nil _ _ Tryd.underlying38 _ _ _ W
  go_enter Tryd.func14, Tryd.ntmps14
  go_wp2_with (first
    | (at_builtin; refine wpList_append_own _ rfl (.const (.slice none 0 0)) (.tmp 5) 38 rfl w.heap.size 3 i3 (.int .i64 0) 1 8 Tryd.underlying38 hi hz0 hz1 hz2 rfl (by decide) _ 0 [] rfl (World.ownsRow_nil _ _ _ _) ⟨b, o, none⟩ n cap ((List.range n).map fun i => .int .i64 (g i)) rfl (by simp) HN.out HO.out (by unfold maxLen; omega) (by omega) (Nat.le_refl _) ?_; intro v1 w1 hown1 hgrow1 hnil1)
    | (at_builtin; refine wpList_append_own _ rfl (.tmp 6) (.tmp 7) 38 rfl w.heap.size 3 i3 (.int .i64 0) 1 8 Tryd.underlying38 hi hz0 hz1 hz2 rfl (by decide) v1 (0 + n) _ rfl (hown1.alloc _) ⟨w1.heap.size, 0, none⟩ 8 8 (List.replicate 8 (.int .i64 (-77))) rfl rfl ?c1 ?c2 (by unfold maxLen; omega) (by omega) (by have := hgrow1.size; simp; omega) ?_)
    | go_in)
  case c1 =>
    intro j u hj
    match j, hj with
    | 0, hj | 1, hj | 2, hj | 3, hj | 4, hj | 5, hj | 6, hj | 7, hj => simp at hj; subst hj; rw [addr_add, cell_of_row _ _ _ _ _ _ (heap_alloc_new w1 _)]; rfl
    | j + 8, hj => simp at hj
  case c2 =>
    intro u hu
    have := List.eq_of_mem_replicate hu
    subst this
    rfl
  intro v2 w2 hown2 hgrow2 _
  have HB : Hid (Below w.heap.size w w2) := (((Below.refl _ w).grown hgrow1 (Nat.le_refl _) (fun k hk => by cases hk)).alloc hgrow1.size _).grown hgrow2 (by have := hgrow1.size; simp; omega) (fun k hk => (hown1.lt k hk).1)
  have HO2 : Hid (w2.ownsRow w.heap.size 3 1 v2 (n + 8) (roomL (fun i => .int .i64 (g i)) n (.int .i64 (-77)))) := hown2
  rcases hown2.2 with ⟨_, h0⟩ | ⟨gb, c, cur, rfl, _, _, hnc, hcm, _, _⟩
  · omega
  · have hc1 : (n : Int) ≤ c := by omega
    have hc2 : n ≤ c := by omega
    clear hown1 hgrow1 hgrow2 hown2 hnil1 hnl
    go_wp2
    go_ret
    exact ⟨⟨gb, c, rfl, HO2.out⟩, HB.out⟩

end Go.Proofs.YtcfjhbcpjpgodaaDoor
