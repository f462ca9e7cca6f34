/- Proved here: what signing a text leaves of a ring. -/
import Derived.Test.YtcfjhbcpjpgodaaDoorRingModel
import Derived.Test.YtcfjhbcpjpgodaaDoorBase
import Derived.BigQuiet
import Derived.Test.YtcfjhbcpjpgodaaDoorMarks
namespace Go.Proofs.YtcfjhbcpjpgodaaDoor
open Go.RowKit

/-- Blocks outside F are as they were. -/
structure SameBut (F : Nat → Prop) (w w' : World) : Prop where
  os : w'.os = w.os
  tape : w'.tape = w.tape
  output : w'.output = w.output
  size : w.heap.size ≤ w'.heap.size
  block : ∀ k, k < w.heap.size → ¬ F k → w'.heap[k]? = w.heap[k]?

/-- What is signed behind one text more. -/
def signR (sg : Nat → List ByteArray) (i : Nat) (t : ByteArray) : Nat → List ByteArray := fun j => if j = i ∧ hasT (sg i) t = false then sg i ++ [t] else sg j

theorem signR_known {sg : Nat → List ByteArray} {i : Nat} {t : ByteArray} (h : t ∈ sg i) : signR sg i t = sg := by
  funext j
  unfold signR
  rw [if_neg (by intro hh; rw [hasT_yes h] at hh; cases hh.2)]
theorem signR_same {sg : Nat → List ByteArray} {i : Nat} {t : ByteArray} (h : t ∉ sg i) : signR sg i t i = sg i ++ [t] := by unfold signR; rw [if_pos ⟨rfl, hasT_no h⟩]
theorem signR_other {sg : Nat → List ByteArray} {i j : Nat} {t : ByteArray} (h : j ≠ i) : signR sg i t j = sg j := by unfold signR; rw [if_neg (by intro hh; exact h hh.1)]

theorem row_apart0 {w : World} {base e n g : Nat} {t : TypeId} {v : Value} {xs : List Value} {C : Array Value} (h : w.ownsRow base e 1 v n xs) (hg : w.heap[g]? = some (.cells C t (0, 0))) (ht : t ≠ e) : some g ≠ v.ownBlock := by
  intro e1
  rcases h.2 with ⟨rfl, _⟩ | ⟨g1, _, _, rfl, _, hh1, _⟩
  · cases e1
  · cases e1
    rw [hh1] at hg
    exact ht (by simpa using (Obj.cells.inj (Option.some.inj hg)).2.1.symm)

/-- What Sign leaves. -/
def SignP (F : Nat → Prop) (rb n : Nat) (sg' : Nat → List ByteArray) (w w' : World) : Prop :=
  ∃ F' : Nat → Prop, RingI F' rb n sg' w' ∧ (∀ k, F' k → F k ∨ w.heap.size ≤ k) ∧ (∀ k, F' k → k < w'.heap.size) ∧ SameBut F w w'

theorem cell_lt' {w : World} {p : Addr} {v : Value} (h : w.cell? p = some v) : p.block < w.heap.size := World.block_lt_of_cell? _ _ h

/-- The ring behind the store that ends Sign. -/
theorem sign_end {F : Nat → Prop} {rb n ob cap i : Nat} {sg : Nat → List ByteArray} {t : ByteArray} {cur : Array Value} {iv : Nat → Value} {ip vp : Option Addr} {ic vc : Nat} {w w3 : World}
    (hF : ∀ k, F k → k < w.heap.size) (h1 : w.heap[rb]? = some (.cells #[.slice (some ⟨ob, 0, none⟩) n cap] 102 (0, 0))) (h2 : w.heap[ob]? = some (.cells cur 39 (0, 0))) (h3 : ∀ i, i < n → cur[i]? = some (iv i))
    (h4 : ∀ i, i < n → w.ownsRow 0 9 1 (iv i) (sg i).length ((sg i).map .string)) (h5 : ∀ i j, i < n → j < n → i ≠ j → ∀ g, (iv i).ownBlock = some g → (iv j).ownBlock ≠ some g) (h6 : F rb) (h7 : F ob) (h8 : ∀ i, i < n → ∀ g, (iv i).ownBlock = some g → F g)
    (hin : i < n) (he : iv i = .slice ip (sg i).length ic) (hmem : t ∉ sg i) (hown : w3.ownsRow 0 9 1 (.slice vp ((sg i).length + 1) vc) ((sg i).length + 1) ((sg i).map .string ++ [.string t]))
    (hat : Value.ownBlock (.slice vp ((sg i).length + 1) vc) = Value.ownBlock (.slice ip (sg i).length ic) ∨ Value.ownBlock (.slice vp ((sg i).length + 1) vc) = some (w.heap.size + 1))
    (hkeep : ∀ k, k < w.heap.size → some k ≠ Value.ownBlock (.slice ip (sg i).length ic) → w3.heap[k]? = w.heap[k]?) (hs3 : w.heap.size + 1 ≤ w3.heap.size) (hos : w3.os = w.os ∧ w3.tape = w.tape ∧ w3.output = w.output)
    (hO : w.ownsRow 0 9 1 (.slice ip (sg i).length ic) (sg i).length ((sg i).map .string)) :
    SignP F rb n (signR sg i t) w (w3.setCell ⟨ob, i, none⟩ (.slice vp ((sg i).length + 1) vc)) := by
  have hon := only_setCell w3 ob i (.slice vp ((sg i).length + 1) vc)
  have neo : some ob ≠ Value.ownBlock (.slice ip (sg i).length ic) := row_apart0 hO h2 (by decide)
  have ner : some rb ≠ Value.ownBlock (.slice ip (sg i).length ic) := row_apart0 hO h1 (by decide)
  have hor : rb ≠ ob := fun e => by rw [e, h2] at h1; simp at h1
  have h23 : w3.heap[ob]? = some (.cells cur 39 (0, 0)) := (hkeep ob (row_lt0 h2) neo).trans h2
  have hnob : some ob ≠ Value.ownBlock (.slice vp ((sg i).length + 1) vc) := row_apart0 hown h23 (by decide)
  obtain ⟨v, hv⟩ : ∃ v, v = Value.slice vp ((sg i).length + 1) vc := ⟨_, rfl⟩
  rw [← hv] at hown hat hon hnob ⊢
  obtain ⟨jv, hjv⟩ : ∃ f : Nat → Value, f = fun j => if j = i then v else iv j := ⟨_, rfl⟩
  have jy : ∀ j, j = i → jv j = v := fun j e => by rw [hjv]; exact if_pos e
  have jn : ∀ j, j ≠ i → jv j = iv j := fun j e => by rw [hjv]; exact if_neg e
  clear hjv
  refine ⟨fun k => F k ∨ some k = v.ownBlock, ⟨ob, cap, cur.setIfInBounds i v, jv, ?_, ?_, ?_, ?_, ?_, Or.inl h6, Or.inl h7, ?_⟩, ?_, ?_, ⟨hos.1, hos.2.1, hos.2.2, ?_, ?_⟩⟩
  · rw [hon.block rb hor, hkeep rb (row_lt0 h1) ner]
    exact h1
  · simp [World.setCell, Array.getElem?_modify, h23]
  · intro j hj
    rw [Array.getElem?_setIfInBounds]
    by_cases e : i = j
    · subst e
      rw [if_pos rfl, if_pos (Array.getElem?_eq_some_iff.1 (h3 i hin)).1, jy i rfl]
    · rw [if_neg e, jn j (fun e2 => e e2.symm)]
      exact h3 j hj
  · intro j hj
    by_cases e : j = i
    · subst e
      rw [jy j rfl, signR_same hmem, List.length_append, List.map_append]
      exact own_blocks hown (fun g hg _ => hon.block g (fun e => hnob (by rw [← e]; exact hg.symm)))
    · rw [jn j e, signR_other e]
      refine own_blocks (h4 j hj) (fun g hg hlt => ?_)
      rw [hon.block g (fun e2 => row_apart0 (h4 j hj) h2 (by decide) (by rw [← e2]; exact hg.symm)), hkeep g hlt (fun e2 => h5 j i hj hin e g hg (by rw [he]; exact e2.symm))]
  · intro j k hj hk hne g hg
    by_cases e : j = i
    · rw [jy j e] at hg
      have e2 : k ≠ i := fun e2 => hne (by rw [e, e2])
      rw [jn k e2]
      intro hg2
      rcases hat with h | h
      · exact h5 k i hk hin e2 g hg2 (by rw [he, ← h]; exact hg)
      · rw [h] at hg
        cases hg
        have := ((h4 k hk).lt _ hg2).2
        omega
    · rw [jn j e] at hg
      by_cases e2 : k = i
      · rw [jy k e2]
        intro hg2
        rcases hat with h | h
        · exact h5 j i hj hin e g hg (by rw [he, ← h]; exact hg2)
        · rw [h] at hg2
          cases hg2
          have := ((h4 j hj).lt _ hg).2
          omega
      · rw [jn k e2]
        exact h5 j k hj hk hne g hg
  · intro j hj g hg
    by_cases e : j = i
    · rw [jy j e] at hg
      exact Or.inr hg.symm
    · rw [jn j e] at hg
      exact Or.inl (h8 j hj g hg)
  · intro k hk
    rcases hk with hk | hk
    · exact Or.inl hk
    · rcases hat with h | h
      · exact Or.inl (h8 i hin k (by rw [he, ← h]; exact hk.symm))
      · rw [h] at hk
        cases hk
        exact Or.inr (by omega)
  · intro k hk
    rw [hon.size]
    rcases hk with hk | hk
    · have := hF k hk
      omega
    · exact (hown.lt k hk.symm).2
  · rw [hon.size]
    omega
  · intro k hk hnF
    rw [hon.block k (fun e => hnF (by rw [e]; exact h7)), hkeep k hk (fun e => hnF (h8 i hin k (by rw [he]; exact e.symm)))]

set_option linter.unusedSimpArgs false in
set_option maxRecDepth 100000 in
set_option maxHeartbeats 3200000 in
theorem sign_any (F : Nat → Prop) (rb n kb i : Nat) (sg : Nat → List ByteArray) (t : ByteArray) (w : World) (h : RingI F rb n sg w) (hin : i < n) (hk : w.heap[kb]? = some (.cells #[.pointer (some ⟨rb, 0, none⟩), .int .i64 (i : Int)] 104 (0, 0)))
    (hlen : (sg i).length ≤ 1000000000) (hF : ∀ k, F k → k < w.heap.size) :
    Calls Tryd.prog 28 #[.pointer (some ⟨kb, 0, none⟩), .string t] w fun e w' => e = .returned (.tuple #[]) ∧ SignP F rb n (signR sg i t) w w' := by
  have HR := hide h
  have hk0 : w.cell? ⟨kb, 0, none⟩ = some (.pointer (some ⟨rb, 0, none⟩)) := cell_of_row w kb 0 _ _ _ hk
  have HKB := hide hk
  have hk1 : w.cell? ⟨kb, 1, none⟩ = some (.int .i64 (i : Int)) := cell_of_row w kb 1 _ _ _ hk
  obtain ⟨i9, hi9, hz0, hz1, hz2⟩ := info_parts Tryd.infoString
  by_cases hmem : t ∈ sg i
  · have HE : Hid (signR sg i t = sg) := signR_known hmem
    have hsb : signedB sg n (i : Int) t = true := by rw [signedB_in hin]; exact hasT_yes hmem
    have HFB := hide hF
    clear h hmem hk hF hlen
    go_enter Tryd.func28, Tryd.ntmps28
    go_wp2_with fail
    go_quiet (first | (go_at_call 45; refine Calls.quiet_of_same (signed_any F rb n sg (i : Int) t _ (HR.out.frame (fun _ _ => rfl)))))
    all_goals go_wp2
    all_goals exact bodyPost_end (v := .tuple #[]) (by simp [results, Tryd.results28]) rfl ⟨rfl, F, by rw [HE.out]; exact HR.out.frame (fun _ _ => rfl), fun k hk => Or.inl hk, fun k hk => HFB.out k hk, ⟨rfl, rfl, rfl, Nat.le_refl _, fun _ _ _ => rfl⟩⟩
  · obtain ⟨ob, cap, cur, iv, h1, h2, h3, h4, h5, h6, h7, h8⟩ := h
    have hc0 : w.cell? ⟨rb, 0, none⟩ = some (.slice (some ⟨ob, 0, none⟩) n cap) := cell_of_row w rb 0 _ _ _ h1
    have hO := h4 i hin
    obtain ⟨ip, ic, he⟩ := own_slice hO
    have hc1 : w.cell? ⟨ob, i, none⟩ = some (.slice ip (sg i).length ic) := by rw [cell_of_row w ob i _ _ _ h2, h3 i hin, he]
    rw [he] at hO
    have hsb : signedB sg n (i : Int) t = false := by rw [signedB_in hin]; exact hasT_no hmem
    have HO := hide hO
    have H1 := hide h1
    have H2 := hide h2
    have H3 := hide h3
    have H4 := hide h4
    have H5 := hide h5
    have H8 := hide h8
    have HE := hide he
    have HMEM := hide hmem
    have HFB := hide hF
    have h67 : F rb ∧ F ob := ⟨h6, h7⟩
    have hi2 : (i : Int) < n := by omega
    have hobc : cur.size > i := (Array.getElem?_eq_some_iff.1 (h3 i hin)).1
    clear h1 h2 h3 h4 h5 h6 h7 h8 hO he hmem hk hF
    go_enter Tryd.func28, Tryd.ntmps28
    go_wp2_with fail
    go_quiet (first | (go_at_call 45; refine Calls.quiet_of_same (signed_any F rb n sg (i : Int) t _ (HR.out.frame (fun _ _ => rfl)))))
    go_wp2_with fail
    refine wp_region_held_drew (S := fun W => W.cell? ⟨kb, 0, none⟩ = some (.pointer (some ⟨rb, 0, none⟩)) ∧ W.cell? ⟨kb, 1, none⟩ = some (.int .i64 (i : Int)) ∧ W.cell? ⟨rb, 0, none⟩ = some (.slice (some ⟨ob, 0, none⟩) n cap)) (by kernel_rfl) ⟨hk0, hk1, hc0⟩ (fun hHeld => ?_)
    refine takeD 0 (some 17) (.pointer (some ⟨kb, 0, none⟩)) rfl rfl (by kernel_rfl) (by kernel_rfl) (by kernel_rfl) (fun _ _ _ h => h) (Or.inl ⟨by rfl, ?_⟩) hHeld ?_
    · intro w hSw
      go_simp
    simp only [Act.put, List.setIfInBounds_toArray, List.set_cons_zero, List.set_cons_succ]
    refine takeD 1 (some 18) (.pointer (some ⟨kb, 0, none⟩)) rfl rfl (by kernel_rfl) (by kernel_rfl) (by kernel_rfl) (fun _ _ _ h => h) (Or.inl ⟨by rfl, ?_⟩) hHeld ?_
    · intro w hSw
      go_simp
    simp only [Act.put, List.setIfInBounds_toArray, List.set_cons_zero, List.set_cons_succ]
    refine takeD 2 (some 19) (.pointer (some ⟨kb, 0, none⟩)) rfl rfl (by kernel_rfl) (by kernel_rfl) (by kernel_rfl) (fun _ _ _ h => h) (Or.inl ⟨by rfl, ?_⟩) hHeld ?_
    · intro w hSw
      go_simp
    simp only [Act.put, List.setIfInBounds_toArray, List.set_cons_zero, List.set_cons_succ]
    refine takeD 3 (some 20) (.pointer (some ⟨rb, 0, none⟩)) rfl rfl (by kernel_rfl) (by kernel_rfl) (by kernel_rfl) (fun _ _ _ h => h) (Or.inl ⟨by rfl, ?_⟩) hHeld ?_
    · intro w hSw
      have hcx := hSw.1
      go_simp
    simp only [Act.put, List.setIfInBounds_toArray, List.set_cons_zero, List.set_cons_succ]
    refine takeD 4 (some 21) (.pointer (some ⟨rb, 0, none⟩)) rfl rfl (by kernel_rfl) (by kernel_rfl) (by kernel_rfl) (fun _ _ _ h => h) (Or.inl ⟨by rfl, ?_⟩) hHeld ?_
    · intro w hSw
      go_simp
    simp only [Act.put, List.setIfInBounds_toArray, List.set_cons_zero, List.set_cons_succ]
    refine takeD 5 (some 22) (.pointer (some ⟨rb, 0, none⟩)) rfl rfl (by kernel_rfl) (by kernel_rfl) (by kernel_rfl) (fun _ _ _ h => h) (Or.inl ⟨by rfl, ?_⟩) hHeld ?_
    · intro w hSw
      go_simp
    simp only [Act.put, List.setIfInBounds_toArray, List.set_cons_zero, List.set_cons_succ]
    refine takeD 6 (some 23) (.slice (some ⟨ob, 0, none⟩) n cap) rfl rfl (by kernel_rfl) (by kernel_rfl) (by kernel_rfl) (fun _ _ _ h => h) (Or.inl ⟨by rfl, ?_⟩) hHeld ?_
    · intro w hSw
      have hcx := hSw.2.2
      go_simp
    simp only [Act.put, List.setIfInBounds_toArray, List.set_cons_zero, List.set_cons_succ]
    refine takeD 7 (some 24) (.pointer (some ⟨kb, 0, none⟩)) rfl rfl (by kernel_rfl) (by kernel_rfl) (by kernel_rfl) (fun _ _ _ h => h) (Or.inl ⟨by rfl, ?_⟩) hHeld ?_
    · intro w hSw
      go_simp
    simp only [Act.put, List.setIfInBounds_toArray, List.set_cons_zero, List.set_cons_succ]
    refine takeD 8 (some 25) (.pointer (some ⟨kb, 0, none⟩)) rfl rfl (by kernel_rfl) (by kernel_rfl) (by kernel_rfl) (fun _ _ _ h => h) (Or.inl ⟨by rfl, ?_⟩) hHeld ?_
    · intro w hSw
      go_simp
    simp only [Act.put, List.setIfInBounds_toArray, List.set_cons_zero, List.set_cons_succ]
    refine takeD 9 (some 26) (.pointer (some ⟨kb, 1, none⟩)) rfl rfl (by kernel_rfl) (by kernel_rfl) (by kernel_rfl) (fun _ _ _ h => h) (Or.inl ⟨by rfl, ?_⟩) hHeld ?_
    · intro w hSw
      go_simp
    simp only [Act.put, List.setIfInBounds_toArray, List.set_cons_zero, List.set_cons_succ]
    refine takeD 10 (some 27) (.int .i64 (i : Int)) rfl rfl (by kernel_rfl) (by kernel_rfl) (by kernel_rfl) (fun _ _ _ h => h) (Or.inl ⟨by rfl, ?_⟩) hHeld ?_
    · intro w hSw
      have hcx := hSw.2.1
      go_simp
    simp only [Act.put, List.setIfInBounds_toArray, List.set_cons_zero, List.set_cons_succ]
    refine takeD 11 (some 28) (.pointer (some ⟨kb, 0, none⟩)) rfl rfl (by kernel_rfl) (by kernel_rfl) (by kernel_rfl) (fun _ _ _ h => h) (Or.inl ⟨by rfl, ?_⟩) hHeld ?_
    · intro w hSw
      go_simp
    simp only [Act.put, List.setIfInBounds_toArray, List.set_cons_zero, List.set_cons_succ]
    refine takeD 12 (some 29) (.pointer (some ⟨kb, 0, none⟩)) rfl rfl (by kernel_rfl) (by kernel_rfl) (by kernel_rfl) (fun _ _ _ h => h) (Or.inl ⟨by rfl, ?_⟩) hHeld ?_
    · intro w hSw
      go_simp
    simp only [Act.put, List.setIfInBounds_toArray, List.set_cons_zero, List.set_cons_succ]
    refine takeD 13 (some 30) (.pointer (some ⟨kb, 0, none⟩)) rfl rfl (by kernel_rfl) (by kernel_rfl) (by kernel_rfl) (fun _ _ _ h => h) (Or.inl ⟨by rfl, ?_⟩) hHeld ?_
    · intro w hSw
      go_simp
    simp only [Act.put, List.setIfInBounds_toArray, List.set_cons_zero, List.set_cons_succ]
    refine takeD 14 (some 31) (.pointer (some ⟨rb, 0, none⟩)) rfl rfl (by kernel_rfl) (by kernel_rfl) (by kernel_rfl) (fun _ _ _ h => h) (Or.inl ⟨by rfl, ?_⟩) hHeld ?_
    · intro w hSw
      have hcx := hSw.1
      go_simp
    simp only [Act.put, List.setIfInBounds_toArray, List.set_cons_zero, List.set_cons_succ]
    refine takeD 15 (some 32) (.pointer (some ⟨rb, 0, none⟩)) rfl rfl (by kernel_rfl) (by kernel_rfl) (by kernel_rfl) (fun _ _ _ h => h) (Or.inl ⟨by rfl, ?_⟩) hHeld ?_
    · intro w hSw
      go_simp
    simp only [Act.put, List.setIfInBounds_toArray, List.set_cons_zero, List.set_cons_succ]
    refine takeD 16 (some 33) (.pointer (some ⟨rb, 0, none⟩)) rfl rfl (by kernel_rfl) (by kernel_rfl) (by kernel_rfl) (fun _ _ _ h => h) (Or.inl ⟨by rfl, ?_⟩) hHeld ?_
    · intro w hSw
      go_simp
    simp only [Act.put, List.setIfInBounds_toArray, List.set_cons_zero, List.set_cons_succ]
    refine takeD 17 (some 34) (.slice (some ⟨ob, 0, none⟩) n cap) rfl rfl (by kernel_rfl) (by kernel_rfl) (by kernel_rfl) (fun _ _ _ h => h) (Or.inl ⟨by rfl, ?_⟩) hHeld ?_
    · intro w hSw
      have hcx := hSw.2.2
      go_simp
    simp only [Act.put, List.setIfInBounds_toArray, List.set_cons_zero, List.set_cons_succ]
    refine takeD 18 (some 35) (.pointer (some ⟨kb, 0, none⟩)) rfl rfl (by kernel_rfl) (by kernel_rfl) (by kernel_rfl) (fun _ _ _ h => h) (Or.inl ⟨by rfl, ?_⟩) hHeld ?_
    · intro w hSw
      go_simp
    simp only [Act.put, List.setIfInBounds_toArray, List.set_cons_zero, List.set_cons_succ]
    refine takeD 19 (some 36) (.pointer (some ⟨kb, 0, none⟩)) rfl rfl (by kernel_rfl) (by kernel_rfl) (by kernel_rfl) (fun _ _ _ h => h) (Or.inl ⟨by rfl, ?_⟩) hHeld ?_
    · intro w hSw
      go_simp
    simp only [Act.put, List.setIfInBounds_toArray, List.set_cons_zero, List.set_cons_succ]
    refine takeD 20 (some 37) (.pointer (some ⟨kb, 1, none⟩)) rfl rfl (by kernel_rfl) (by kernel_rfl) (by kernel_rfl) (fun _ _ _ h => h) (Or.inl ⟨by rfl, ?_⟩) hHeld ?_
    · intro w hSw
      go_simp
    simp only [Act.put, List.setIfInBounds_toArray, List.set_cons_zero, List.set_cons_succ]
    refine takeD 21 (some 38) (.int .i64 (i : Int)) rfl rfl (by kernel_rfl) (by kernel_rfl) (by kernel_rfl) (fun _ _ _ h => h) (Or.inl ⟨by rfl, ?_⟩) hHeld ?_
    · intro w hSw
      have hcx := hSw.2.1
      go_simp
    simp only [Act.put, List.setIfInBounds_toArray, List.set_cons_zero, List.set_cons_succ]
    refine takeD 22 (some 39) (.pointer (some ⟨ob, i, none⟩)) rfl rfl (by kernel_rfl) (by kernel_rfl) (by kernel_rfl) (fun _ _ _ h => h) (Or.inl ⟨by rfl, ?_⟩) hHeld ?_
    · intro w hSw
      go_simp
    simp only [Act.put, List.setIfInBounds_toArray, List.set_cons_zero, List.set_cons_succ]
    refine takeD 24 (some 41) (.string t) rfl rfl (by kernel_rfl) (by kernel_rfl) (by kernel_rfl) (fun _ _ _ h => h) (Or.inl ⟨by rfl, ?_⟩) hHeld ?_
    · intro w hSw
      go_simp
    simp only [Act.put, List.setIfInBounds_toArray, List.set_cons_zero, List.set_cons_succ]
    have hobl : ob < w.heap.size := cell_lt hc1
    have hib : ∀ g, Value.ownBlock (.slice ip (sg i).length ic) = some g → g ≠ ob ∧ g ≠ rb ∧ g ≠ kb ∧ g < w.heap.size := fun g hg => by
      obtain ⟨hg1, hg2⟩ := HO.out.lt g hg
      refine ⟨fun e => row_apart0 HO.out H2.out (by decide) (by rw [← e]; exact hg.symm), fun e => row_apart0 HO.out H1.out (by decide) (by rw [← e]; exact hg.symm), fun e => row_apart0 HO.out HKB.out (by decide) (by rw [← e]; exact hg.symm), hg2⟩
    have ne := fun g => fun (h : some g = Value.ownBlock (.slice ip (sg i).length ic)) => hib g h.symm
    have hobrb : ob ≠ rb := fun e => by have h := H2.out; rw [e, H1.out] at h; simp at h
    have hobkb : ob ≠ kb := fun e => by have h := H2.out; rw [e, HKB.out] at h; simp at h
    have hal : ∀ (m : Nat) (o : Obj) (p : Addr) (v : Value), w.cell? p = some v → ((w.drewN m).alloc o).cell? p = some v := fun m o p v hp => by
      rw [← hp]
      exact World.cell?_of_block (w := w) (Below.heap_alloc (w.drewN m) o p.block (cell_lt' hp))
    refine wpAnyH_ready (rs := [23, 25]) (by kernel_rfl) (by simp) ?_
    refine AllReadyH.cons rfl (fun K hK => ?_) (AllReadyH.cons rfl (fun K hK => ?_) AllReadyH.nil)
    · go_simp
      refine hK.out _ _ hHeld (fun hHeld => ?_)
      clear hK K
      refine wpAnyH_ready (rs := [25]) (by kernel_rfl) (by simp) ?_
      refine AllReadyH.cons rfl (fun K hK => ?_) AllReadyH.nil
      go_simp
      refine hK.out _ _ ⟨hal _ _ _ _ hk0, hal _ _ _ _ hk1, hal _ _ _ _ hc0⟩ (fun hHeld => ?_)
      clear hK K
      refine wpAnyH_ready (rs := [26]) (by kernel_rfl) (by simp) ?_
      refine AllReadyH.cons rfl (fun K hK => ?_) AllReadyH.nil
      rw [if_pos (by rfl)]
      refine wp_append_at _ _ _ 39 rfl 0 9 i9 (.string ByteArray.empty) 1 16 Tryd.underlying39 hi9 hz0 hz1 hz2 rfl (by decide) (.slice ip (sg i).length ic) (sg i).length ((sg i).map .string) rfl (own_blocks (w := w) HO.out (fun g _ hg => Below.heap_alloc (w.drewN _) _ g hg)) ⟨w.heap.size, 0, none⟩ 1 1 [.string t] rfl rfl (fun j u hj => ?_) (fun u hu => ?_) (by unfold maxLen; omega) (by omega) (Nat.zero_le _) ?_
      · match j, hj with
        | 0, hj => simp at hj; subst hj; rw [addr_add]; exact cell_of_row _ _ 0 _ _ _ (heap_alloc_new (w.drewN _) _)
        | j + 1, hj => simp at hj
      · simp at hu; subst hu; rfl
      intro v' w3 hown hgrow hat
      have HN := hide hown
      have HGR := hide hgrow
      have HAT := hide hat
      clear hown hgrow hat
      have hkeep : ∀ k, k < w.heap.size → some k ≠ Value.ownBlock (.slice ip (sg i).length ic) → w3.heap[k]? = w.heap[k]? := fun k hk hne => (HGR.out.block k (by simp; omega) hne).trans (Below.heap_alloc (w.drewN _) _ k hk)
      have hs3 : w.heap.size + 1 ≤ w3.heap.size := by have := HGR.out.size; simp at this; omega
      have HAT2 : Hid (v'.ownBlock = Value.ownBlock (.slice ip (sg i).length ic) ∨ v'.ownBlock = some (w.heap.size + 1)) := by have h := HAT.out; simpa [Hid] using h
      have HOS : Hid (w3.os = w.os ∧ w3.tape = w.tape ∧ w3.output = w.output) := ⟨HGR.out.os, HGR.out.tape, HGR.out.output⟩
      refine hK.out _ _ ?_ (fun hHeld => ?_)
      · exact ⟨(World.cell?_of_block (w := w) (a := ⟨kb, 0, none⟩) (hkeep kb (cell_lt hk0) (fun e => (ne kb e).2.2.1 rfl))).trans hk0, (World.cell?_of_block (w := w) (a := ⟨kb, 1, none⟩) (hkeep kb (cell_lt hk1) (fun e => (ne kb e).2.2.1 rfl))).trans hk1, (World.cell?_of_block (w := w) (a := ⟨rb, 0, none⟩) (hkeep rb (cell_lt hc0) (fun e => (ne rb e).2.1 rfl))).trans hc0⟩
      clear hK K HAT HGR
      refine takeD 27 (some 44) (.pointer (some ⟨ob, i, none⟩)) rfl rfl (by kernel_rfl) (by kernel_rfl) (by kernel_rfl) (fun _ _ _ h => h) (Or.inl ⟨by rfl, ?_⟩) hHeld ?_
      · intro w hSw
        go_simp
      simp only [Act.put, List.setIfInBounds_toArray, List.set_cons_zero, List.set_cons_succ]
      have H23 := hide ((hkeep ob hobl (fun e => (ne ob e).1 rfl)).trans H2.out)
      have hf3 : w3.frozen? ⟨ob, i, none⟩ = false := by have h := H23.out; simp [World.frozen?, h]
      have hc3 : w3.cell? ⟨ob, i, none⟩ = some (.slice ip (sg i).length ic) := by rw [← hc1]; exact World.cell?_of_block (w := w) (a := ⟨ob, i, none⟩) (hkeep ob hobl (fun e => (ne ob e).1 rfl))
      obtain ⟨vp, vc, rfl⟩ := own_slice HN.out
      have HON := hide (only_setCell w3 ob i (.slice vp ((sg i).length + 1) vc))
      refine wpAnyH_ready (rs := [28]) (by kernel_rfl) (by simp) ?_
      refine AllReadyH.cons rfl (fun K hK => ?_) AllReadyH.nil
      go_simp
      refine hK.out _ _ ?_ (fun hHeld => ?_)
      · exact ⟨(HON.out.cell (p := ⟨kb, 0, none⟩) (by exact fun e => hobkb e.symm)).trans hHeld.1, (HON.out.cell (p := ⟨kb, 1, none⟩) (by exact fun e => hobkb e.symm)).trans hHeld.2.1, (HON.out.cell (p := ⟨rb, 0, none⟩) (by exact fun e => hobrb e.symm)).trans hHeld.2.2⟩
      clear hK K
      refine wpAnyH_done (by kernel_rfl) ?_ _
      go_wp2
      exact bodyPost_end (v := .tuple #[]) (by simp [results, Tryd.results28]) rfl ⟨rfl, sign_end HFB.out H1.out H2.out H3.out H4.out H5.out h67.1 h67.2 H8.out hin HE.out HMEM.out HN.out HAT2.out hkeep hs3 HOS.out HO.out⟩
    · go_simp
      refine hK.out _ _ ⟨hal _ _ _ _ hk0, hal _ _ _ _ hk1, hal _ _ _ _ hc0⟩ (fun hHeld => ?_)
      clear hK K
      refine wpAnyH_ready (rs := [23]) (by kernel_rfl) (by simp) ?_
      refine AllReadyH.cons rfl (fun K hK => ?_) AllReadyH.nil
      have hc9 := fun m o => hal m o _ _ hc1
      go_simp
      refine hK.out _ _ hHeld (fun hHeld => ?_)
      clear hK K
      refine wpAnyH_ready (rs := [26]) (by kernel_rfl) (by simp) ?_
      refine AllReadyH.cons rfl (fun K hK => ?_) AllReadyH.nil
      rw [if_pos (by rfl)]
      refine wp_append_at _ _ _ 39 rfl 0 9 i9 (.string ByteArray.empty) 1 16 Tryd.underlying39 hi9 hz0 hz1 hz2 rfl (by decide) (.slice ip (sg i).length ic) (sg i).length ((sg i).map .string) rfl (own_blocks (w := w) HO.out (fun g _ hg => Below.heap_alloc (w.drewN _) _ g hg)) ⟨w.heap.size, 0, none⟩ 1 1 [.string t] rfl rfl (fun j u hj => ?_) (fun u hu => ?_) (by unfold maxLen; omega) (by omega) (Nat.zero_le _) ?_
      · match j, hj with
        | 0, hj => simp at hj; subst hj; rw [addr_add]; exact cell_of_row _ _ 0 _ _ _ (heap_alloc_new (w.drewN _) _)
        | j + 1, hj => simp at hj
      · simp at hu; subst hu; rfl
      intro v' w3 hown hgrow hat
      have HN := hide hown
      have HGR := hide hgrow
      have HAT := hide hat
      clear hown hgrow hat
      have hkeep : ∀ k, k < w.heap.size → some k ≠ Value.ownBlock (.slice ip (sg i).length ic) → w3.heap[k]? = w.heap[k]? := fun k hk hne => (HGR.out.block k (by simp; omega) hne).trans (Below.heap_alloc (w.drewN _) _ k hk)
      have hs3 : w.heap.size + 1 ≤ w3.heap.size := by have := HGR.out.size; simp at this; omega
      have HAT2 : Hid (v'.ownBlock = Value.ownBlock (.slice ip (sg i).length ic) ∨ v'.ownBlock = some (w.heap.size + 1)) := by have h := HAT.out; simpa [Hid] using h
      have HOS : Hid (w3.os = w.os ∧ w3.tape = w.tape ∧ w3.output = w.output) := ⟨HGR.out.os, HGR.out.tape, HGR.out.output⟩
      refine hK.out _ _ ?_ (fun hHeld => ?_)
      · exact ⟨(World.cell?_of_block (w := w) (a := ⟨kb, 0, none⟩) (hkeep kb (cell_lt hk0) (fun e => (ne kb e).2.2.1 rfl))).trans hk0, (World.cell?_of_block (w := w) (a := ⟨kb, 1, none⟩) (hkeep kb (cell_lt hk1) (fun e => (ne kb e).2.2.1 rfl))).trans hk1, (World.cell?_of_block (w := w) (a := ⟨rb, 0, none⟩) (hkeep rb (cell_lt hc0) (fun e => (ne rb e).2.1 rfl))).trans hc0⟩
      clear hK K HAT HGR
      refine takeD 27 (some 44) (.pointer (some ⟨ob, i, none⟩)) rfl rfl (by kernel_rfl) (by kernel_rfl) (by kernel_rfl) (fun _ _ _ h => h) (Or.inl ⟨by rfl, ?_⟩) hHeld ?_
      · intro w hSw
        go_simp
      simp only [Act.put, List.setIfInBounds_toArray, List.set_cons_zero, List.set_cons_succ]
      have H23 := hide ((hkeep ob hobl (fun e => (ne ob e).1 rfl)).trans H2.out)
      have hf3 : w3.frozen? ⟨ob, i, none⟩ = false := by have h := H23.out; simp [World.frozen?, h]
      have hc3 : w3.cell? ⟨ob, i, none⟩ = some (.slice ip (sg i).length ic) := by rw [← hc1]; exact World.cell?_of_block (w := w) (a := ⟨ob, i, none⟩) (hkeep ob hobl (fun e => (ne ob e).1 rfl))
      obtain ⟨vp, vc, rfl⟩ := own_slice HN.out
      have HON := hide (only_setCell w3 ob i (.slice vp ((sg i).length + 1) vc))
      refine wpAnyH_ready (rs := [28]) (by kernel_rfl) (by simp) ?_
      refine AllReadyH.cons rfl (fun K hK => ?_) AllReadyH.nil
      go_simp
      refine hK.out _ _ ?_ (fun hHeld => ?_)
      · exact ⟨(HON.out.cell (p := ⟨kb, 0, none⟩) (by exact fun e => hobkb e.symm)).trans hHeld.1, (HON.out.cell (p := ⟨kb, 1, none⟩) (by exact fun e => hobkb e.symm)).trans hHeld.2.1, (HON.out.cell (p := ⟨rb, 0, none⟩) (by exact fun e => hobrb e.symm)).trans hHeld.2.2⟩
      clear hK K
      refine wpAnyH_done (by kernel_rfl) ?_ _
      go_wp2
      exact bodyPost_end (v := .tuple #[]) (by simp [results, Tryd.results28]) rfl ⟨rfl, sign_end HFB.out H1.out H2.out H3.out H4.out H5.out h67.1 h67.2 H8.out hin HE.out HMEM.out HN.out HAT2.out hkeep hs3 HOS.out HO.out⟩

end Go.Proofs.YtcfjhbcpjpgodaaDoor
