/- Proved here: what the document's Split answers at every text. -/
import Derived.Test.YtcfjhbcpjpgodaaDoorCuts
import Derived.OwnWalk
namespace Go.Proofs.YtcfjhbcpjpgodaaDoor
open Go.RowKit

theorem not_nil_text {b : ByteArray} (h : ¬ b.size = 0) : (b.toList == []) = false := by
  apply Bool.eq_false_iff.2
  intro e
  have e1 : b.toList = [] := by simpa using e
  have e2 : b.toList.length = b.size := by rw [ByteArray.toList_eq]; simp
  rw [e1] at e2
  exact h e2.symm

set_option maxRecDepth 100000 in
set_option maxHeartbeats 3200000 in
theorem split_any (b : ByteArray) (w : World) (hs : b.size < 4294967281) :
    Calls Tryd.prog 63 #[.string b] w fun e w' => ∃ v, e = .returned (.tuple #[v, .bool (splitR b).2]) ∧ w'.ownsRow w.heap.size 9 1 v (splitR b).1.length ((splitR b).1.map .string) ∧ Below w.heap.size w w' := by
  by_cases hb0 : b.size = 0
  · have e0 : b = ByteArray.empty := by
      apply ByteArray.ext
      exact Array.eq_empty_of_size_eq_zero hb0
    subst e0
    go_enter Tryd.func63, Tryd.ntmps63
    go_wp2
    go_ret2
    exact ⟨.slice none 0 0, rfl, World.ownsRow_nil _ _ _ _, Below.refl _ _⟩
  · have hne := not_nil_text hb0
    obtain ⟨i9, hi, hz0, hz1, hz2⟩ := info_parts Tryd.infoString
    go_enter Tryd.func63, Tryd.ntmps63
    go_wp2
    clear hne
    go_loopw [4, 5, 6, 7] (fun l fr vt i wr => ∃ (done : List ByteArray) (f k : Nat), f ≤ k ∧ k ≤ b.size + 1 ∧ done.length ≤ f ∧ cuts b 0 0 = done ++ cuts b f k ∧ done.all formB = true ∧ fr = .int .i64 f ∧ i = .int .i64 k ∧ vt = .int .i64 (votes done : Nat) ∧ wr.ownsRow w.heap.size 9 1 l done.length (done.map .string) ∧ Below w.heap.size w wr) (fun _ _ _ i _ => b.size + 1 - (intOf i).toNat)
    case atStart => exact ⟨[], 0, 0, by omega, by omega, by simp, rfl, rfl, rfl, rfl, rfl, World.ownsRow_nil _ _ _ _, Below.refl _ _⟩
    case round =>
      obtain ⟨done, f, k, hfk, hk, hdl, hc, hfd, rfl, rfl, rfl, ho, hbl⟩ := hrel
      have HC := hide hc
      have HF := hide hfd
      have HO := hide ho
      have HB := hide hbl
      clear hc hfd ho hbl
      by_cases h1 : k < b.size
      · have hki : (k : Int) < b.size := by omega
        have ik := index_byt b k h1
        by_cases h2 : byt b k = 44
        · have HCT := hide (cuts_at b f k h1 h2)
          rw [h2] at ik
          clear h2
          obtain ⟨t, ht⟩ : ∃ t, t = b.extract f k := ⟨_, rfl⟩
          have hsl : ∀ W : World, (Instr.slice 9 (.string b) (some (.int .i64 (f : Int))) (some (.int .i64 (k : Int))) none).run Tryd.prog W = .ok (.string t) W := fun W => by
            rw [run_slice_string W 9 b .i64 .i64 f k Tryd.underlying9 (by omega) (by omega) (by omega), ht]; rfl
          have HSZ := hide (show t.size = k - f by rw [ht]; exact size_piece b f k (by omega))
          have HMX : Hid (t.size ≤ maxLen) := by unfold Hid maxLen; rw [HSZ.out]; omega
          have HT := hide ht
          clear ht
          have HCT : Hid (cuts b f k = t :: cuts b (k + 1) (k + 1)) := by unfold Hid; rw [HT.out]; exact HCT.out
          by_cases hf : formB t = true
          · have hsz : f + 2 ≤ k := by
              have := of_decide_eq_true (p := _) hf
              rw [HSZ.out] at this
              omega
            have i0 := index_byt b f (by omega)
            have hbt : byt b f = byt t 0 := by rw [HT.out, byt_piece b f k 0 (by omega)]; rfl
            rw [hbt] at i0
            have HN : Hid (cuts b 0 0 = (done ++ [t]) ++ cuts b (k + 1) (k + 1)) := by unfold Hid; rw [HC.out, List.append_assoc]; exact congrArg _ HCT.out
            have HF2 : Hid ((done ++ [t]).all formB = true) := by unfold Hid; rw [List.all_append, HF.out]; simp [hf]
            have hvl := votes_le done
            clear hbt
            by_cases hv : byt t 0 = 118
            · have HV2 : Hid (votes (done ++ [t]) = votes done + 1) := by unfold Hid; rw [votes_append, if_pos hv]
              rw [hv] at i0
              clear hv
              go_wp2_with (first | (go_at_call 72; refine (form_any t _ HMX.out).mono ?_; rintro e w1 ⟨rfl, hw1⟩; have hw2 := hw1.symm; clear hw1; subst hw2; rw [hf]) | (at_builtin; refine wpList_append_own _ rfl _ _ 39 rfl w.heap.size 9 i9 (.string ByteArray.empty) 1 16 Tryd.underlying39 hi hz0 hz1 hz2 rfl (by decide) _ _ _ rfl (HO.out.alloc _) ⟨wr.heap.size, 0, none⟩ 1 1 [.string t] rfl rfl ?c1 ?c2 ?c3 ?c4 ?c5 ?_) | go_in)
              case c1 =>
                intro j u hj
                match j, hj with
                | 0, hj => simp at hj; subst hj; simp [Addr.add]
              case c2 => intro u hu; simp at hu; subst hu; rfl
              case c3 => unfold maxLen; omega
              case c4 => omega
              case c5 => have := HB.out.size; simp; omega
              intro v' w1 hown' hgrow _
              have HOW := hide hown'
              have HB2 := hide ((HB.out.alloc (by have := HB.out.size; omega) _).grown hgrow (by have := HB.out.size; simp; omega) (fun k hk => (HO.out.lt k hk).1))
              clear hown' hgrow
              go_wp2
              go_roundw
              case rel => exact ⟨done ++ [t], k + 1, k + 1, by omega, by omega, by simp; omega, HN.out, HF2.out, by go_num, by go_num, by rw [HV2.out]; go_num, by simpa using HOW.out, HB2.out⟩
              case measure => simp [intOf]; omega
            · have hvb : (byt t 0 == 118) = false := by simpa using hv
              have HV2 : Hid (votes (done ++ [t]) = votes done) := by unfold Hid; rw [votes_append, if_neg hv]; rfl
              clear hv
              go_wp2_with (first | (go_at_call 72; refine (form_any t _ HMX.out).mono ?_; rintro e w1 ⟨rfl, hw1⟩; have hw2 := hw1.symm; clear hw1; subst hw2; rw [hf]) | (at_builtin; refine wpList_append_own _ rfl _ _ 39 rfl w.heap.size 9 i9 (.string ByteArray.empty) 1 16 Tryd.underlying39 hi hz0 hz1 hz2 rfl (by decide) _ _ _ rfl (HO.out.alloc _) ⟨wr.heap.size, 0, none⟩ 1 1 [.string t] rfl rfl ?c1 ?c2 ?c3 ?c4 ?c5 ?_) | go_in)
              case c1 =>
                intro j u hj
                match j, hj with
                | 0, hj => simp at hj; subst hj; simp [Addr.add]
              case c2 => intro u hu; simp at hu; subst hu; rfl
              case c3 => unfold maxLen; omega
              case c4 => omega
              case c5 => have := HB.out.size; simp; omega
              intro v' w1 hown' hgrow _
              have HOW := hide hown'
              have HB2 := hide ((HB.out.alloc (by have := HB.out.size; omega) _).grown hgrow (by have := HB.out.size; simp; omega) (fun k hk => (HO.out.lt k hk).1))
              clear hown' hgrow
              go_wp2
              go_roundw
              case rel => exact ⟨done ++ [t], k + 1, k + 1, by omega, by omega, by simp; omega, HN.out, HF2.out, by go_num, by go_num, by rw [HV2.out], by simpa using HOW.out, HB2.out⟩
              case measure => simp [intOf]; omega
          · have hf' : formB t = false := by simpa using hf
            have HR := hide (splitR_bad b done _ t hb0 (HC.out.trans (congrArg _ HCT.out)) hf')
            clear hf
            go_wp2_with (go_at_call 72; refine (form_any t _ HMX.out).mono ?_; rintro e w1 ⟨rfl, hw1⟩; have hw2 := hw1.symm; clear hw1; subst hw2; rw [hf'])
            go_ret2
            exact ⟨.slice none 0 0, by rw [HR.out]; rfl, by rw [HR.out]; exact World.ownsRow_nil _ _ _ _, HB.out⟩
        · have h2b : (byt b k == 44) = false := by simpa using h2
          have HCT := hide (cuts_go b f k h1 h2)
          clear h2
          go_wp2
          go_roundw
          case rel => exact ⟨done, f, k + 1, by omega, by omega, hdl, by rw [← HCT.out]; exact HC.out, HF.out, rfl, by go_num, rfl, HO.out, HB.out⟩
          case measure => simp [intOf]; omega
      · by_cases h2 : k = b.size
        · have HCT : Hid (cuts b f k = b.extract f k :: cuts b (k + 1) (k + 1)) := by unfold Hid; rw [h2]; exact cuts_end b f
          have hki : (k : Int) ≤ b.size := by omega
          have hkj : ¬ (k : Int) < b.size := by omega
          have hkl : k ≤ b.size := by omega
          have hkm : b.size ≤ k := by omega
          clear h2
          obtain ⟨t, ht⟩ : ∃ t, t = b.extract f k := ⟨_, rfl⟩
          have hsl : ∀ W : World, (Instr.slice 9 (.string b) (some (.int .i64 (f : Int))) (some (.int .i64 (k : Int))) none).run Tryd.prog W = .ok (.string t) W := fun W => by
            rw [run_slice_string W 9 b .i64 .i64 f k Tryd.underlying9 (by omega) (by omega) (by omega), ht]; rfl
          have HSZ := hide (show t.size = k - f by rw [ht]; exact size_piece b f k (by omega))
          have HMX : Hid (t.size ≤ maxLen) := by unfold Hid maxLen; rw [HSZ.out]; omega
          have HT := hide ht
          clear ht
          have HCT : Hid (cuts b f k = t :: cuts b (k + 1) (k + 1)) := by unfold Hid; rw [HT.out]; exact HCT.out
          by_cases hf : formB t = true
          · have hsz : f + 2 ≤ k := by
              have := of_decide_eq_true (p := _) hf
              rw [HSZ.out] at this
              omega
            have i0 := index_byt b f (by omega)
            have hbt : byt b f = byt t 0 := by rw [HT.out, byt_piece b f k 0 (by omega)]; rfl
            rw [hbt] at i0
            have HN : Hid (cuts b 0 0 = (done ++ [t]) ++ cuts b (k + 1) (k + 1)) := by unfold Hid; rw [HC.out, List.append_assoc]; exact congrArg _ HCT.out
            have HF2 : Hid ((done ++ [t]).all formB = true) := by unfold Hid; rw [List.all_append, HF.out]; simp [hf]
            have hvl := votes_le done
            clear hbt
            by_cases hv : byt t 0 = 118
            · have HV2 : Hid (votes (done ++ [t]) = votes done + 1) := by unfold Hid; rw [votes_append, if_pos hv]
              rw [hv] at i0
              clear hv
              go_wp2_with (first | (go_at_call 72; refine (form_any t _ HMX.out).mono ?_; rintro e w1 ⟨rfl, hw1⟩; have hw2 := hw1.symm; clear hw1; subst hw2; rw [hf]) | (at_builtin; refine wpList_append_own _ rfl _ _ 39 rfl w.heap.size 9 i9 (.string ByteArray.empty) 1 16 Tryd.underlying39 hi hz0 hz1 hz2 rfl (by decide) _ _ _ rfl (HO.out.alloc _) ⟨wr.heap.size, 0, none⟩ 1 1 [.string t] rfl rfl ?c1 ?c2 ?c3 ?c4 ?c5 ?_) | go_in)
              case c1 =>
                intro j u hj
                match j, hj with
                | 0, hj => simp at hj; subst hj; simp [Addr.add]
              case c2 => intro u hu; simp at hu; subst hu; rfl
              case c3 => unfold maxLen; omega
              case c4 => omega
              case c5 => have := HB.out.size; simp; omega
              intro v' w1 hown' hgrow _
              have HOW := hide hown'
              have HB2 := hide ((HB.out.alloc (by have := HB.out.size; omega) _).grown hgrow (by have := HB.out.size; simp; omega) (fun k hk => (HO.out.lt k hk).1))
              clear hown' hgrow
              go_wp2
              go_roundw
              case rel => exact ⟨done ++ [t], k + 1, k + 1, by omega, by omega, by simp; omega, HN.out, HF2.out, by go_num, by go_num, by rw [HV2.out]; go_num, by simpa using HOW.out, HB2.out⟩
              case measure => simp [intOf]; omega
            · have hvb : (byt t 0 == 118) = false := by simpa using hv
              have HV2 : Hid (votes (done ++ [t]) = votes done) := by unfold Hid; rw [votes_append, if_neg hv]; rfl
              clear hv
              go_wp2_with (first | (go_at_call 72; refine (form_any t _ HMX.out).mono ?_; rintro e w1 ⟨rfl, hw1⟩; have hw2 := hw1.symm; clear hw1; subst hw2; rw [hf]) | (at_builtin; refine wpList_append_own _ rfl _ _ 39 rfl w.heap.size 9 i9 (.string ByteArray.empty) 1 16 Tryd.underlying39 hi hz0 hz1 hz2 rfl (by decide) _ _ _ rfl (HO.out.alloc _) ⟨wr.heap.size, 0, none⟩ 1 1 [.string t] rfl rfl ?c1 ?c2 ?c3 ?c4 ?c5 ?_) | go_in)
              case c1 =>
                intro j u hj
                match j, hj with
                | 0, hj => simp at hj; subst hj; simp [Addr.add]
              case c2 => intro u hu; simp at hu; subst hu; rfl
              case c3 => unfold maxLen; omega
              case c4 => omega
              case c5 => have := HB.out.size; simp; omega
              intro v' w1 hown' hgrow _
              have HOW := hide hown'
              have HB2 := hide ((HB.out.alloc (by have := HB.out.size; omega) _).grown hgrow (by have := HB.out.size; simp; omega) (fun k hk => (HO.out.lt k hk).1))
              clear hown' hgrow
              go_wp2
              go_roundw
              case rel => exact ⟨done ++ [t], k + 1, k + 1, by omega, by omega, by simp; omega, HN.out, HF2.out, by go_num, by go_num, by rw [HV2.out], by simpa using HOW.out, HB2.out⟩
              case measure => simp [intOf]; omega
          · have hf' : formB t = false := by simpa using hf
            have HR := hide (splitR_bad b done _ t hb0 (HC.out.trans (congrArg _ HCT.out)) hf')
            clear hf
            go_wp2_with (go_at_call 72; refine (form_any t _ HMX.out).mono ?_; rintro e w1 ⟨rfl, hw1⟩; have hw2 := hw1.symm; clear hw1; subst hw2; rw [hf'])
            go_ret2
            exact ⟨.slice none 0 0, by rw [HR.out]; rfl, by rw [HR.out]; exact World.ownsRow_nil _ _ _ _, HB.out⟩
        · have hk2 : ¬ (k : Int) ≤ b.size := by omega
          have HR := hide (splitR_good b done hb0 (by rw [HC.out, cuts_out b f k (by omega), List.append_nil]) HF.out)
          rcases HO.out.2 with ⟨rfl, hn⟩ | ⟨g, cap, cur, rfl, -, -, -, -, -, -⟩
          · obtain rfl : done = [] := List.eq_nil_of_length_eq_zero hn
            go_wp2
            go_ret2
            exact ⟨_, by rw [HR.out]; rfl, by rw [HR.out]; exact HO.out, HB.out⟩
          · by_cases hl3 : done.length ≤ 3
            · have hl4 : (done.length : Int) ≤ 3 := by omega
              by_cases hv2 : votes done < 2
              · have hv3 : (votes done : Int) < 2 := by omega
                have HX : Hid ((decide (done.length ≤ 3) && decide (votes done < 2)) = true) := by unfold Hid; simp [hl3, hv2]
                go_wp2
                go_ret2
                exact ⟨_, by rw [HR.out, HX.out]; rfl, by rw [HR.out]; exact HO.out, HB.out⟩
              · have hv3 : ¬ (votes done : Int) < 2 := by omega
                have HX : Hid ((decide (done.length ≤ 3) && decide (votes done < 2)) = false) := by unfold Hid; simp [hv2]
                go_wp2
                go_ret2
                exact ⟨_, by rw [HR.out, HX.out]; rfl, by rw [HR.out]; exact HO.out, HB.out⟩
            · have hl4 : ¬ (done.length : Int) ≤ 3 := by omega
              have HX : Hid ((decide (done.length ≤ 3) && decide (votes done < 2)) = false) := by unfold Hid; simp [hl3]
              go_wp2
              go_ret2
              exact ⟨_, by rw [HR.out, HX.out]; rfl, by rw [HR.out]; exact HO.out, HB.out⟩

end Go.Proofs.YtcfjhbcpjpgodaaDoor
