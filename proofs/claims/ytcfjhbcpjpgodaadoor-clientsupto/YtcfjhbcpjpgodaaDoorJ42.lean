/- Proved here: what the law's book keeps of a list that came out: it writes it full of its mark, and keeps it and what append makes of it. · Proved here: the law's book says yes where all that it keeps reads as it was written. · Proved here: what the law's book holds from one list that it keeps to the next, and that all of it reads as it was written. -/
import Derived.Test.YtcfjhbcpjpgodaaDoorJ35
import Derived.Test.YtcfjhbcpjpgodaaDoorRoomy
import Derived.BigQuiet
namespace Go.Proofs.YtcfjhbcpjpgodaaDoor
open Go.RowKit

theorem Tryd.infoRows : (Tryd.prog.info? 98).map (fun i => (i.zero, i.size, i.bytes)) = some (some (.slice none 0 0), 1, 24) := by kernel_rfl

set_option linter.unusedSimpArgs false in
set_option maxRecDepth 100000 in
set_option maxHeartbeats 3200000 in
theorem keep_any (bk K base base0 n : Nat) (lv tv v : Value) (evs xs : List Value) (w : World) (hK : K ≤ 100000000) (hn : n ≤ 100)
    (hbook : w.heap[bk]? = some (.cells #[lv, tv] 44 (0, 0))) (hlv : w.ownsRow base0 98 1 lv K evs) (hv : w.ownsRow base 3 1 v n xs)
    (h1 : bk < base0) (h2 : bk < base) (h4 : base ≤ w.heap.size) (h5 : base0 ≤ w.heap.size) :
    Calls Tryd.prog 22 #[.pointer (some ⟨bk, 0, none⟩), v] w fun e w' => e = .returned (.tuple #[]) ∧ KeepP bk K base0 n lv tv v (.int .i64 (-7000 - (K : Int))) evs w w' := by
  obtain ⟨i3, hi, hz0, hz1, hz2⟩ := info_parts Tryd.infoInt
  obtain ⟨i74, hi7, hz70, hz71, hz72⟩ := info_parts Tryd.infoRows
  obtain ⟨lp, lc, rfl⟩ := own_slice hlv
  obtain ⟨M, hM⟩ : ∃ M : Int, M = -7000 - (K : Int) := ⟨_, rfl⟩
  rw [← hM]
  have HM := hide hM
  have hc0 : w.cell? ⟨bk, 0, none⟩ = some (.slice lp K lc) := cell_of_row w bk 0 _ _ _ hbook
  have hlen : xs.length = n := by have := hv.1; omega
  have HBOOK := hide hbook
  have HLV := hide hlv
  have HV := hide hv
  have HX := hide hlen
  have H3 := hide (own_apart hlv hv (by decide))
  have H4 := hide h4
  clear hM hbook hlv hlen h4
  obtain ⟨vp, vc, rfl⟩ := own_slice hv
  clear hv
  go_enter Tryd.func22, Tryd.ntmps22
  go_wp2_with ((go_at_call 43; refine (mark_any K _ (by omega)).mono ?_; rintro e w1 ⟨rfl, hw1⟩; have hw2 := hw1.symm; clear hw1; subst hw2; rw [← HM.out]))
  go_loopw [5] (fun i wr => ∃ k : Nat, k ≤ n ∧ i = .int .i64 k ∧ wr.ownsRow base 3 1 (.slice vp n vc) n (List.replicate k (.int .i64 M) ++ xs.drop k) ∧ w.grownBy wr (Value.ownBlock (.slice vp n vc))) (fun i _ => n - (intOf i).toNat)
  case atStart => exact ⟨0, Nat.zero_le _, rfl, HV.out, World.grownBy.refl _ _⟩
  case round =>
    obtain ⟨k, hk, rfl, ho, hg⟩ := hrel
    have HO := hide ho
    have HG := hide hg
    clear hg
    by_cases hkn : k = n
    · have HOF : Hid (wr.ownsRow base 3 1 (.slice vp n vc) n (List.replicate n (.int .i64 M))) := by
        unfold Hid
        have := HO.out
        rw [hkn, List.drop_of_length_le (by rw [HX.out]; exact Nat.le_refl _), List.append_nil] at this
        exact this
      have hge : ¬ (k : Int) < n := by omega
      clear hkn HO ho
      go_wp2
      have hbw : base ≤ wr.heap.size := Nat.le_trans H4.out HG.out.size
      have HS : Hid (KeepS bk base (.slice lp K lc) (.slice vp n vc) wr.drew) := ⟨fun g hg => HOF.out.lt g hg, fun g hg => ⟨⟨Nat.lt_of_lt_of_le (HLV.out.lt g hg).2 HG.out.size, by have := (HLV.out.lt g hg).1; omega⟩, H3.out g hg⟩, h2, hbw⟩
      have HBKr : Hid (wr.drew.heap[bk]? = some (.cells #[.slice lp K lc, tv] 44 (0, 0))) := (HG.out.block bk (by have := H4.out; omega) (fun e => by have := (HOF.out.lt bk e.symm).1; omega)).trans HBOOK.out
      have HLVr : Hid (wr.drew.ownsRow base0 98 1 (.slice lp K lc) K evs) := own_blocks HLV.out (fun g e h => HG.out.block g h (fun e2 => H3.out g e e2.symm))
      have hb0 : base0 ≤ wr.drew.heap.size := Nat.le_trans h5 HG.out.size
      refine wp_region_held_drew (S := fun _ => True) (by kernel_rfl) trivial (fun _ => ?_)
      refine takeD 0 (some 22) (.pointer (some ⟨bk, 0, none⟩)) rfl rfl (by kernel_rfl) (by kernel_rfl) (by kernel_rfl) (fun _ _ _ h => h) (Or.inl ⟨by rfl, ?_⟩) trivial ?_
      · intro w hSw
        go_simp
      simp only [Act.put, List.setIfInBounds_toArray, List.set_cons_zero, List.set_cons_succ]
      refine takeD 1 (some 23) (.pointer (some ⟨bk, 0, none⟩)) rfl rfl (by kernel_rfl) (by kernel_rfl) (by kernel_rfl) (fun _ _ _ h => h) (Or.inl ⟨by rfl, ?_⟩) trivial ?_
      · intro w hSw
        go_simp
      simp only [Act.put, List.setIfInBounds_toArray, List.set_cons_zero, List.set_cons_succ]
      refine takeD 2 (some 24) (.pointer (some ⟨bk, 0, none⟩)) rfl rfl (by kernel_rfl) (by kernel_rfl) (by kernel_rfl) (fun _ _ _ h => h) (Or.inl ⟨by rfl, ?_⟩) trivial ?_
      · intro w hSw
        go_simp
      simp only [Act.put, List.setIfInBounds_toArray, List.set_cons_zero, List.set_cons_succ]
      refine takeD 3 (some 25) (.pointer (some ⟨bk, 0, none⟩)) rfl rfl (by kernel_rfl) (by kernel_rfl) (by kernel_rfl) (fun _ _ _ h => h) (Or.inl ⟨by rfl, ?_⟩) trivial ?_
      · intro w hSw
        go_simp
      simp only [Act.put, List.setIfInBounds_toArray, List.set_cons_zero, List.set_cons_succ]
      refine takeD 5 (some 27) (.slice vp n vc) rfl rfl (by kernel_rfl) (by kernel_rfl) (by kernel_rfl) (fun _ _ _ h => h) (Or.inl ⟨by rfl, ?_⟩) trivial ?_
      · intro w hSw
        go_simp
      simp only [Act.put, List.setIfInBounds_toArray, List.set_cons_zero, List.set_cons_succ]
      refine takeD 6 (some 28) (.slice vp n vc) rfl rfl (by kernel_rfl) (by kernel_rfl) (by kernel_rfl) (fun _ _ _ h => h) (Or.inl ⟨by rfl, ?_⟩) trivial ?_
      · intro w hSw
        go_simp
      simp only [Act.put, List.setIfInBounds_toArray, List.set_cons_zero, List.set_cons_succ]
      refine takeD 7 (some 29) (.int .i64 M) rfl rfl (by kernel_rfl) (by kernel_rfl) (by kernel_rfl) (fun _ _ _ h => h) (Or.inl ⟨by rfl, ?_⟩) trivial ?_
      · intro w hSw
        go_simp
      simp only [Act.put, List.setIfInBounds_toArray, List.set_cons_zero, List.set_cons_succ]
      refine takeD 10 (some 32) (.slice vp n vc) rfl rfl (by kernel_rfl) (by kernel_rfl) (by kernel_rfl) (fun _ _ _ h => h) (Or.inl ⟨by rfl, ?_⟩) trivial ?_
      · intro w hSw
        go_simp
      simp only [Act.put, List.setIfInBounds_toArray, List.set_cons_zero, List.set_cons_succ]
      refine takeD 11 (some 33) (.int .i64 M) rfl rfl (by kernel_rfl) (by kernel_rfl) (by kernel_rfl) (fun _ _ _ h => h) (Or.inl ⟨by rfl, ?_⟩) trivial ?_
      · intro w hSw
        go_simp
      simp only [Act.put, List.setIfInBounds_toArray, List.set_cons_zero, List.set_cons_succ]
      refine takeD 12 (some 34) (.int .i64 M) rfl rfl (by kernel_rfl) (by kernel_rfl) (by kernel_rfl) (fun _ _ _ h => h) (Or.inl ⟨by rfl, ?_⟩) trivial ?_
      · intro w hSw
        go_simp
      simp only [Act.put, List.setIfInBounds_toArray, List.set_cons_zero, List.set_cons_succ]
      refine takeD 15 (some 37) (.slice vp n vc) rfl rfl (by kernel_rfl) (by kernel_rfl) (by kernel_rfl) (fun _ _ _ h => h) (Or.inl ⟨by rfl, ?_⟩) trivial ?_
      · intro w hSw
        go_simp
      simp only [Act.put, List.setIfInBounds_toArray, List.set_cons_zero, List.set_cons_succ]
      refine takeD 16 (some 38) (.int .i64 M) rfl rfl (by kernel_rfl) (by kernel_rfl) (by kernel_rfl) (fun _ _ _ h => h) (Or.inl ⟨by rfl, ?_⟩) trivial ?_
      · intro w hSw
        go_simp
      simp only [Act.put, List.setIfInBounds_toArray, List.set_cons_zero, List.set_cons_succ]
      refine takeD 17 (some 39) (.int .i64 M) rfl rfl (by kernel_rfl) (by kernel_rfl) (by kernel_rfl) (fun _ _ _ h => h) (Or.inl ⟨by rfl, ?_⟩) trivial ?_
      · intro w hSw
        go_simp
      simp only [Act.put, List.setIfInBounds_toArray, List.set_cons_zero, List.set_cons_succ]
      refine takeD 18 (some 40) (.int .i64 M) rfl rfl (by kernel_rfl) (by kernel_rfl) (by kernel_rfl) (fun _ _ _ h => h) (Or.inl ⟨by rfl, ?_⟩) trivial ?_
      · intro w hSw
        go_simp
      simp only [Act.put, List.setIfInBounds_toArray, List.set_cons_zero, List.set_cons_succ]
      refine takeD 19 (some 41) (.int .i64 M) rfl rfl (by kernel_rfl) (by kernel_rfl) (by kernel_rfl) (fun _ _ _ h => h) (Or.inl ⟨by rfl, ?_⟩) trivial ?_
      · intro w hSw
        go_simp
      simp only [Act.put, List.setIfInBounds_toArray, List.set_cons_zero, List.set_cons_succ]
      refine takeD 20 (some 42) (.int .i64 M) rfl rfl (by kernel_rfl) (by kernel_rfl) (by kernel_rfl) (fun _ _ _ h => h) (Or.inl ⟨by rfl, ?_⟩) trivial ?_
      · intro w hSw
        go_simp
      simp only [Act.put, List.setIfInBounds_toArray, List.set_cons_zero, List.set_cons_succ]
      refine takeD 21 (some 43) (.int .i64 M) rfl rfl (by kernel_rfl) (by kernel_rfl) (by kernel_rfl) (fun _ _ _ h => h) (Or.inl ⟨by rfl, ?_⟩) trivial ?_
      · intro w hSw
        go_simp
      simp only [Act.put, List.setIfInBounds_toArray, List.set_cons_zero, List.set_cons_succ]
      refine wpAnyH_inv (by kernel_rfl) (fun l a W => ∃ v26 v30 v31 v35 v36 v44 v45 v46 v47 v48 v49 v50, a = ⟨#[.pointer (some ⟨bk, 0, none⟩), .slice vp n vc, undef, undef, .int .i64 M, .int .i64 (k : Int), .pointer (some ⟨bk, 0, none⟩), .pointer (some ⟨bk, 0, none⟩), .pointer (some ⟨bk, 0, none⟩), .slice lp K lc, .int .i64 (K : Int), .int .i64 M, .int .i64 (k : Int), .slice vp n vc, .int .i64 (n : Int), .bool false, u16, u17, u18, u19, u20, u21, .pointer (some ⟨bk, 0, none⟩), .pointer (some ⟨bk, 0, none⟩), .pointer (some ⟨bk, 0, none⟩), .pointer (some ⟨bk, 0, none⟩), v26, .slice vp n vc, .slice vp n vc, .int .i64 M, v30, v31, .slice vp n vc, .int .i64 M, .int .i64 M, v35, v36, .slice vp n vc, .int .i64 M, .int .i64 M, .int .i64 M, .int .i64 M, .int .i64 M, .int .i64 M, v44, v45, v46, v47, v48, v49, v50], []⟩ ∧ KeepI bk K base base0 n (.slice lp K lc) tv (.slice vp n vc) (.int .i64 M) evs wr.drew l W v26 v30 v31 v35 v36 v44 v45 v46 v47 v48 v49 v50) ?_ ?_ _ _ _ _ (by kernel_rfl) (Nat.le_of_eq (by kernel_rfl)) ?_
      · intro l a W i o hI hl ho hd K' hK'
        obtain ⟨v26, v30, v31, v35, v36, v44, v45, v46, v47, v48, v49, v50, rfl, hI⟩ := hI
        match i, hl, ho, hd with
        | 0, hl, ho, hd =>
          exact Bool.noConfusion (hl.symm.trans (hI.t 0 (by decide)))
        | 1, hl, ho, hd =>
          exact Bool.noConfusion (hl.symm.trans (hI.t 1 (by decide)))
        | 2, hl, ho, hd =>
          exact Bool.noConfusion (hl.symm.trans (hI.t 2 (by decide)))
        | 3, hl, ho, hd =>
          exact Bool.noConfusion (hl.symm.trans (hI.t 3 (by decide)))
        | 4, hl, ho, hd =>
          cases ho
          rw [if_pos (by rfl)]
          have hbk : W.cell? ⟨bk, 0, none⟩ = some (.slice lp K lc) := cell_of_row W bk 0 _ _ _ (hI.bk0 (by cases h29 : l 29 with | false => rfl | true => exact Bool.noConfusion (hl.symm.trans (hI.c29 h29).2)))
          go_simp
          exact hK'.out _ _ ⟨_, _, _, _, _, _, _, _, _, _, _, _, rfl, { t := fun j hj => by unfold came; split; rfl; exact hI.t j hj, os := hI.os, tape := hI.tape, output := hI.output, sz := hI.sz, fr := hI.fr, own := hI.own, p4 := fun _ => rfl, p8 := hI.p8, p13 := hI.p13, p22 := hI.p22, p9 := hI.p9, p14 := hI.p14, p23 := hI.p23, p24 := hI.p24, p25 := hI.p25, lvo := hI.lvo, p26 := hI.p26, p26m := hI.p26m, c24 := hI.c24, c25 := hI.c25, c26 := hI.c26, c29 := fun e => ⟨(hI.c29 e).1, rfl⟩, p27 := hI.p27, p28 := hI.p28, bk0 := hI.bk0, bk1 := hI.bk1 }⟩
        | 5, hl, ho, hd =>
          exact Bool.noConfusion (hl.symm.trans (hI.t 5 (by decide)))
        | 6, hl, ho, hd =>
          exact Bool.noConfusion (hl.symm.trans (hI.t 6 (by decide)))
        | 7, hl, ho, hd =>
          exact Bool.noConfusion (hl.symm.trans (hI.t 7 (by decide)))
        | 8, hl, ho, hd =>
          cases ho
          rw [if_pos (by rfl)]
          go_simp
          have hA := hI.alloc HS.out (.cells #[.int .i64 M] 3)
          exact hK'.out _ _ ⟨_, _, _, _, _, _, _, _, _, _, _, _, rfl, { t := fun j hj => by unfold came; split; rfl; exact hI.t j hj, os := hA.os, tape := hA.tape, output := hA.output, sz := hA.sz, fr := hA.fr, own := hA.own, p4 := hA.p4, p8 := fun _ => Built.alloc W hI.sz 1 _ _, p13 := hA.p13, p22 := hA.p22, p9 := hA.p9, p14 := hA.p14, p23 := hA.p23, p24 := hA.p24, p25 := hA.p25, lvo := hA.lvo, p26 := hA.p26, p26m := hA.p26m, c24 := hA.c24, c25 := hA.c25, c26 := hA.c26, c29 := hA.c29, p27 := hA.p27, p28 := hA.p28, bk0 := hA.bk0, bk1 := hA.bk1 }⟩
        | 9, hl, ho, hd =>
          cases ho
          rw [if_pos (by rfl)]
          obtain ⟨gb, rfl, hgB, hgC⟩ := hI.p8 (hd ⟨8, .data⟩ (by simp) rfl)
          refine wp_append_marks W (.tmp 28) (.tmp 30) 38 rfl base 3 i3 (.int .i64 0) 8 Tryd.underlying38 hi hz0 hz1 hz2 rfl (.slice vp n vc) n _ rfl hI.own ⟨gb, 0, none⟩ 1 1 (.int .i64 M) rfl (by decide) (fun j u hj => ?_) rfl (by unfold maxLen; omega) (by omega) (Nat.le_trans HS.out.bw hI.sz) ?_
          · match j, hj with
            | 0, hj => simp at hj; subst hj; rw [addr_add, cell_of_row W gb _ _ _ _ hgC]; rfl
            | j + 1, hj => simp at hj
          intro v' W' hown' hgrow hat hv' hmk
          have hA := hI.more HS.out hgrow hv' hmk
          rw [List.replicate_append_replicate] at hown'
          exact hK'.out _ _ ⟨_, _, _, _, _, _, _, _, _, _, _, _, rfl, { t := fun j hj => by unfold came; split; rfl; exact hI.t j hj, os := hA.os, tape := hA.tape, output := hA.output, sz := hA.sz, fr := hA.fr, own := hA.own, p4 := hA.p4, p8 := hA.p8, p13 := hA.p13, p22 := hA.p22, p9 := fun _ => MarkedX.own hown' (fun g hg e => by rcases hat with e1 | e1; exact absurd (e1.symm.trans hg) (HS.out.bl g e.symm).2; (have e2 := e1.symm.trans hg; cases e2; have := (HS.out.bl _ e.symm).1.1; have := HS.out.bw; have := hI.sz; omega)) (fun g hg => by rcases hat with e1 | e1; exact Or.inl (hg.symm.trans e1); (have e2 := e1.symm.trans hg; cases e2; exact Or.inr hI.sz)), p14 := hA.p14, p23 := hA.p23, p24 := fun e => Bool.noConfusion (hl.symm.trans ((hI.c24 e).1)), p25 := hA.p25, lvo := hA.lvo, p26 := hA.p26, p26m := fun e => Bool.noConfusion (hl.symm.trans ((hI.c24 (hI.c25 (hI.c26 e))).1)), c24 := fun e => ⟨rfl, (hI.c24 e).2⟩, c25 := hA.c25, c26 := hA.c26, c29 := hA.c29, p27 := hA.p27, p28 := hA.p28, bk0 := hA.bk0, bk1 := hA.bk1 }⟩
        | 10, hl, ho, hd =>
          exact Bool.noConfusion (hl.symm.trans (hI.t 10 (by decide)))
        | 11, hl, ho, hd =>
          exact Bool.noConfusion (hl.symm.trans (hI.t 11 (by decide)))
        | 12, hl, ho, hd =>
          exact Bool.noConfusion (hl.symm.trans (hI.t 12 (by decide)))
        | 13, hl, ho, hd =>
          cases ho
          rw [if_pos (by rfl)]
          go_simp
          have hA := hI.alloc HS.out (.cells #[.int .i64 M, .int .i64 M] 3)
          exact hK'.out _ _ ⟨_, _, _, _, _, _, _, _, _, _, _, _, rfl, { t := fun j hj => by unfold came; split; rfl; exact hI.t j hj, os := hA.os, tape := hA.tape, output := hA.output, sz := hA.sz, fr := hA.fr, own := hA.own, p4 := hA.p4, p8 := hA.p8, p13 := fun _ => Built.alloc W hI.sz 2 _ _, p22 := hA.p22, p9 := hA.p9, p14 := hA.p14, p23 := hA.p23, p24 := hA.p24, p25 := hA.p25, lvo := hA.lvo, p26 := hA.p26, p26m := hA.p26m, c24 := hA.c24, c25 := hA.c25, c26 := hA.c26, c29 := hA.c29, p27 := hA.p27, p28 := hA.p28, bk0 := hA.bk0, bk1 := hA.bk1 }⟩
        | 14, hl, ho, hd =>
          cases ho
          rw [if_pos (by rfl)]
          obtain ⟨gb, rfl, hgB, hgC⟩ := hI.p13 (hd ⟨13, .data⟩ (by simp) rfl)
          refine wp_append_marks W (.tmp 32) (.tmp 35) 38 rfl base 3 i3 (.int .i64 0) 8 Tryd.underlying38 hi hz0 hz1 hz2 rfl (.slice vp n vc) n _ rfl hI.own ⟨gb, 0, none⟩ 2 2 (.int .i64 M) rfl (by decide) (fun j u hj => ?_) rfl (by unfold maxLen; omega) (by omega) (Nat.le_trans HS.out.bw hI.sz) ?_
          · match j, hj with
            | 0, hj => simp at hj; subst hj; rw [addr_add, cell_of_row W gb _ _ _ _ hgC]; rfl
            | 1, hj => simp at hj; subst hj; rw [addr_add, cell_of_row W gb _ _ _ _ hgC]; rfl
            | j + 2, hj => simp at hj
          intro v' W' hown' hgrow hat hv' hmk
          have hA := hI.more HS.out hgrow hv' hmk
          rw [List.replicate_append_replicate] at hown'
          exact hK'.out _ _ ⟨_, _, _, _, _, _, _, _, _, _, _, _, rfl, { t := fun j hj => by unfold came; split; rfl; exact hI.t j hj, os := hA.os, tape := hA.tape, output := hA.output, sz := hA.sz, fr := hA.fr, own := hA.own, p4 := hA.p4, p8 := hA.p8, p13 := hA.p13, p22 := hA.p22, p9 := hA.p9, p14 := fun _ => MarkedX.own hown' (fun g hg e => by rcases hat with e1 | e1; exact absurd (e1.symm.trans hg) (HS.out.bl g e.symm).2; (have e2 := e1.symm.trans hg; cases e2; have := (HS.out.bl _ e.symm).1.1; have := HS.out.bw; have := hI.sz; omega)) (fun g hg => by rcases hat with e1 | e1; exact Or.inl (hg.symm.trans e1); (have e2 := e1.symm.trans hg; cases e2; exact Or.inr hI.sz)), p23 := hA.p23, p24 := fun e => Bool.noConfusion (hl.symm.trans ((hI.c24 e).2.1)), p25 := hA.p25, lvo := hA.lvo, p26 := hA.p26, p26m := fun e => Bool.noConfusion (hl.symm.trans ((hI.c24 (hI.c25 (hI.c26 e))).2.1)), c24 := fun e => ⟨(hI.c24 e).1, rfl, (hI.c24 e).2.2⟩, c25 := hA.c25, c26 := hA.c26, c29 := hA.c29, p27 := hA.p27, p28 := hA.p28, bk0 := hA.bk0, bk1 := hA.bk1 }⟩
        | 15, hl, ho, hd =>
          exact Bool.noConfusion (hl.symm.trans (hI.t 15 (by decide)))
        | 16, hl, ho, hd =>
          exact Bool.noConfusion (hl.symm.trans (hI.t 16 (by decide)))
        | 17, hl, ho, hd =>
          exact Bool.noConfusion (hl.symm.trans (hI.t 17 (by decide)))
        | 18, hl, ho, hd =>
          exact Bool.noConfusion (hl.symm.trans (hI.t 18 (by decide)))
        | 19, hl, ho, hd =>
          exact Bool.noConfusion (hl.symm.trans (hI.t 19 (by decide)))
        | 20, hl, ho, hd =>
          exact Bool.noConfusion (hl.symm.trans (hI.t 20 (by decide)))
        | 21, hl, ho, hd =>
          exact Bool.noConfusion (hl.symm.trans (hI.t 21 (by decide)))
        | 22, hl, ho, hd =>
          cases ho
          rw [if_pos (by rfl)]
          go_simp
          have hA := hI.alloc HS.out (.cells #[.int .i64 M, .int .i64 M, .int .i64 M, .int .i64 M, .int .i64 M, .int .i64 M] 3)
          exact hK'.out _ _ ⟨_, _, _, _, _, _, _, _, _, _, _, _, rfl, { t := fun j hj => by unfold came; split; rfl; exact hI.t j hj, os := hA.os, tape := hA.tape, output := hA.output, sz := hA.sz, fr := hA.fr, own := hA.own, p4 := hA.p4, p8 := hA.p8, p13 := hA.p13, p22 := fun _ => Built.alloc W hI.sz 6 _ _, p9 := hA.p9, p14 := hA.p14, p23 := hA.p23, p24 := hA.p24, p25 := hA.p25, lvo := hA.lvo, p26 := hA.p26, p26m := hA.p26m, c24 := hA.c24, c25 := hA.c25, c26 := hA.c26, c29 := hA.c29, p27 := hA.p27, p28 := hA.p28, bk0 := hA.bk0, bk1 := hA.bk1 }⟩
        | 23, hl, ho, hd =>
          cases ho
          rw [if_pos (by rfl)]
          obtain ⟨gb, rfl, hgB, hgC⟩ := hI.p22 (hd ⟨22, .data⟩ (by simp) rfl)
          refine wp_append_marks W (.tmp 37) (.tmp 44) 38 rfl base 3 i3 (.int .i64 0) 8 Tryd.underlying38 hi hz0 hz1 hz2 rfl (.slice vp n vc) n _ rfl hI.own ⟨gb, 0, none⟩ 6 6 (.int .i64 M) rfl (by decide) (fun j u hj => ?_) rfl (by unfold maxLen; omega) (by omega) (Nat.le_trans HS.out.bw hI.sz) ?_
          · match j, hj with
            | 0, hj => simp at hj; subst hj; rw [addr_add, cell_of_row W gb _ _ _ _ hgC]; rfl
            | 1, hj => simp at hj; subst hj; rw [addr_add, cell_of_row W gb _ _ _ _ hgC]; rfl
            | 2, hj => simp at hj; subst hj; rw [addr_add, cell_of_row W gb _ _ _ _ hgC]; rfl
            | 3, hj => simp at hj; subst hj; rw [addr_add, cell_of_row W gb _ _ _ _ hgC]; rfl
            | 4, hj => simp at hj; subst hj; rw [addr_add, cell_of_row W gb _ _ _ _ hgC]; rfl
            | 5, hj => simp at hj; subst hj; rw [addr_add, cell_of_row W gb _ _ _ _ hgC]; rfl
            | j + 6, hj => simp at hj
          intro v' W' hown' hgrow hat hv' hmk
          have hA := hI.more HS.out hgrow hv' hmk
          rw [List.replicate_append_replicate] at hown'
          exact hK'.out _ _ ⟨_, _, _, _, _, _, _, _, _, _, _, _, rfl, { t := fun j hj => by unfold came; split; rfl; exact hI.t j hj, os := hA.os, tape := hA.tape, output := hA.output, sz := hA.sz, fr := hA.fr, own := hA.own, p4 := hA.p4, p8 := hA.p8, p13 := hA.p13, p22 := hA.p22, p9 := hA.p9, p14 := hA.p14, p23 := fun _ => MarkedX.own hown' (fun g hg e => by rcases hat with e1 | e1; exact absurd (e1.symm.trans hg) (HS.out.bl g e.symm).2; (have e2 := e1.symm.trans hg; cases e2; have := (HS.out.bl _ e.symm).1.1; have := HS.out.bw; have := hI.sz; omega)) (fun g hg => by rcases hat with e1 | e1; exact Or.inl (hg.symm.trans e1); (have e2 := e1.symm.trans hg; cases e2; exact Or.inr hI.sz)), p24 := fun e => Bool.noConfusion (hl.symm.trans ((hI.c24 e).2.2)), p25 := hA.p25, lvo := hA.lvo, p26 := hA.p26, p26m := fun e => Bool.noConfusion (hl.symm.trans ((hI.c24 (hI.c25 (hI.c26 e))).2.2)), c24 := fun e => ⟨(hI.c24 e).1, (hI.c24 e).2.1, rfl⟩, c25 := hA.c25, c26 := hA.c26, c29 := hA.c29, p27 := hA.p27, p28 := hA.p28, bk0 := hA.bk0, bk1 := hA.bk1 }⟩
        | 24, hl, ho, hd =>
          cases ho
          rw [if_pos (by rfl)]
          obtain ⟨p1, q1, rfl, _⟩ := hI.p9 (hd ⟨9, .data⟩ (by simp) rfl)
          obtain ⟨p2, q2, rfl, _⟩ := hI.p14 (hd ⟨14, .data⟩ (by simp) rfl)
          obtain ⟨p3, q3, rfl, _⟩ := hI.p23 (hd ⟨23, .data⟩ (by simp) rfl)
          go_simp
          have hA := hI.alloc HS.out (.cells #[.slice vp n vc, .slice p1 (n + 1) q1, .slice p2 (n + 2) q2, .slice p3 (n + 6) q3] 38)
          exact hK'.out _ _ ⟨_, _, _, _, _, _, _, _, _, _, _, _, rfl, { t := fun j hj => by unfold came; split; rfl; exact hI.t j hj, os := hA.os, tape := hA.tape, output := hA.output, sz := hA.sz, fr := hA.fr, own := hA.own, p4 := hA.p4, p8 := hA.p8, p13 := hA.p13, p22 := hA.p22, p9 := hA.p9, p14 := hA.p14, p23 := hA.p23, p24 := fun _ => Built.alloc W hI.sz 4 _ _, p25 := fun e => Bool.noConfusion (hl.symm.trans (hI.c25 e)), lvo := hA.lvo, p26 := fun e => Bool.noConfusion (hl.symm.trans (hI.c25 (hI.c26 e))), p26m := hA.p26m, c24 := fun _ => ⟨hd ⟨9, .data⟩ (by simp) rfl, hd ⟨14, .data⟩ (by simp) rfl, hd ⟨23, .data⟩ (by simp) rfl⟩, c25 := fun _ => rfl, c26 := hA.c26, c29 := hA.c29, p27 := hA.p27, p28 := hA.p28, bk0 := hA.bk0, bk1 := hA.bk1 }⟩
        | 25, hl, ho, hd =>
          cases ho
          rw [if_pos (by rfl)]
          obtain ⟨g46, rfl, _, _⟩ := hI.p24 (hd ⟨24, .data⟩ (by simp) rfl)
          go_simp
          have hA := hI.alloc HS.out (.cells #[.slice (some ⟨g46, 0, none⟩) 4 4] 98)
          exact hK'.out _ _ ⟨_, _, _, _, _, _, _, _, _, _, _, _, rfl, { t := fun j hj => by unfold came; split; rfl; exact hI.t j hj, os := hA.os, tape := hA.tape, output := hA.output, sz := hA.sz, fr := hA.fr, own := hA.own, p4 := hA.p4, p8 := hA.p8, p13 := hA.p13, p22 := hA.p22, p9 := hA.p9, p14 := hA.p14, p23 := hA.p23, p24 := hA.p24, p25 := fun _ => Built.alloc W hI.sz 1 _ _, lvo := hA.lvo, p26 := hA.p26, p26m := hA.p26m, c24 := hA.c24, c25 := fun _ => hd ⟨24, .data⟩ (by simp) rfl, c26 := fun _ => rfl, c29 := hA.c29, p27 := hA.p27, p28 := hA.p28, bk0 := hA.bk0, bk1 := hA.bk1 }⟩
        | 26, hl, ho, hd =>
          cases ho
          rw [if_pos (by rfl)]
          obtain rfl := hI.p4 (hd ⟨4, .data⟩ (by simp) rfl)
          obtain ⟨g46, rfl, hg46⟩ := hI.p24 (hI.c25 (hd ⟨25, .data⟩ (by simp) rfl))
          obtain ⟨gb, rfl, hgB, hgC⟩ := hI.p25 (hd ⟨25, .data⟩ (by simp) rfl)
          refine wp_append_at W (.tmp 26) (.tmp 47) 41 rfl base0 98 i74 (.slice none 0 0) 1 24 Tryd.underlying41 hi7 hz70 hz71 hz72 rfl (by decide) (.slice lp K lc) K evs rfl (hI.lvo hl) ⟨gb, 0, none⟩ 1 1 [.slice (some ⟨g46, 0, none⟩) 4 4] rfl rfl (fun j u hj => ?_) (fun u hu => ?_) (by unfold maxLen; omega) (by omega) (Nat.le_trans hb0 hI.sz) ?_
          · match j, hj with
            | 0, hj => simp at hj; subst hj; rw [addr_add, cell_of_row W gb _ _ _ _ hgC]; rfl
            | j + 1, hj => simp at hj
          · simp at hu; subst hu; rfl
          intro v' W' hown' hgrow hat
          have hbt : ∀ g, wr.drew.heap.size ≤ g → g < W.heap.size → W'.heap[g]? = W.heap[g]? := fun g h1 h2 => hgrow.block g h2 (fun e => by have := (HS.out.bl g e.symm).1.1; have := HS.out.bw; omega)
          have hmc : ∀ b j, some b ≠ Value.ownBlock (.slice lp K lc) → W.cell? ⟨b, j, none⟩ = some (.int .i64 M) → W'.cell? ⟨b, j, none⟩ = some (.int .i64 M) := fun b j hx hc => by rw [← hc]; exact World.cell?_of_block (w := W) (a := ⟨b, j, none⟩) (hgrow.block b (cell_lt hc) hx)
          have hnv : ∀ g, Value.ownBlock (.slice vp n vc) = some g → some g ≠ Value.ownBlock (.slice lp K lc) := fun g e e2 => (HS.out.bl g e2.symm).2 e
          have hbkk : W'.heap[bk]? = W.heap[bk]? := hgrow.block bk (by have := HS.out.bb; have := HS.out.bw; have := hI.sz; omega) (fun e => (HS.out.bl bk e.symm).1.2 rfl)
          have h24 := hI.c24 (hI.c25 (hd ⟨25, .data⟩ (by simp) rfl))
          exact hK'.out _ _ ⟨_, _, _, _, _, _, _, _, _, _, _, _, rfl, { t := fun j hj => by unfold came; split; rfl; exact hI.t j hj, os := hgrow.os.trans hI.os, tape := hgrow.tape.trans hI.tape, output := hgrow.output.trans hI.output, sz := Nat.le_trans hI.sz hgrow.size, fr := fun k h1 h2 h3 h4 => (hgrow.block k (Nat.lt_of_lt_of_le h1 hI.sz) h3).trans (hI.fr k h1 h2 h3 h4), own := own_blocks hI.own (fun g e h2 => hgrow.block g h2 (hnv g e)), p4 := hI.p4, p8 := fun e => (hI.p8 e).kept hbt, p13 := fun e => (hI.p13 e).kept hbt, p22 := fun e => (hI.p22 e).kept hbt, p9 := fun e => (hI.p9 e).later hgrow.size hmc, p14 := fun e => (hI.p14 e).later hgrow.size hmc, p23 := fun e => (hI.p23 e).later hgrow.size hmc, p24 := fun e => (hI.p24 e).kept hbt, p25 := fun e => (hI.p25 e).kept hbt, lvo := fun e => Bool.noConfusion (show true = false from e), p26 := fun _ => ⟨hown', fun g hg => by rcases hat with e1 | e1; exact Or.inl (e1.symm.trans hg); (have e2 := e1.symm.trans hg; cases e2; exact Or.inr hI.sz)⟩, p26m := fun _ => ⟨(MarkedX.own hI.own hnv (fun _ e => Or.inl e.symm)).both hgrow hat, (hI.p9 h24.1).both hgrow hat, (hI.p14 h24.2.1).both hgrow hat, (hI.p23 h24.2.2).both hgrow hat⟩, c24 := hI.c24, c25 := hI.c25, c26 := fun _ => hd ⟨25, .data⟩ (by simp) rfl, c29 := fun e => ⟨rfl, (hI.c29 e).2⟩, p27 := hI.p27, p28 := hI.p28, bk0 := fun e => hbkk.trans (hI.bk0 e), bk1 := fun e => Bool.noConfusion (hl.symm.trans ((hI.c29 e).1)) }⟩
        | 27, hl, ho, hd =>
          cases ho
          rw [if_pos (by rfl)]
          go_simp
          exact hK'.out _ _ ⟨_, _, _, _, _, _, _, _, _, _, _, _, rfl, { t := fun j hj => by unfold came; split; rfl; exact hI.t j hj, os := hI.os, tape := hI.tape, output := hI.output, sz := hI.sz, fr := hI.fr, own := hI.own, p4 := hI.p4, p8 := hI.p8, p13 := hI.p13, p22 := hI.p22, p9 := hI.p9, p14 := hI.p14, p23 := hI.p23, p24 := hI.p24, p25 := hI.p25, lvo := hI.lvo, p26 := hI.p26, p26m := hI.p26m, c24 := hI.c24, c25 := hI.c25, c26 := hI.c26, c29 := hI.c29, p27 := fun _ => rfl, p28 := hI.p28, bk0 := hI.bk0, bk1 := hI.bk1 }⟩
        | 28, hl, ho, hd =>
          cases ho
          rw [if_pos (by rfl)]
          obtain rfl := hI.p27 (hd ⟨27, .data⟩ (by simp) rfl)
          go_simp
          exact hK'.out _ _ ⟨_, _, _, _, _, _, _, _, _, _, _, _, rfl, { t := fun j hj => by unfold came; split; rfl; exact hI.t j hj, os := hI.os, tape := hI.tape, output := hI.output, sz := hI.sz, fr := hI.fr, own := hI.own, p4 := hI.p4, p8 := hI.p8, p13 := hI.p13, p22 := hI.p22, p9 := hI.p9, p14 := hI.p14, p23 := hI.p23, p24 := hI.p24, p25 := hI.p25, lvo := hI.lvo, p26 := hI.p26, p26m := hI.p26m, c24 := hI.c24, c25 := hI.c25, c26 := hI.c26, c29 := hI.c29, p27 := hI.p27, p28 := fun _ => rfl, bk0 := hI.bk0, bk1 := hI.bk1 }⟩
        | 29, hl, ho, hd =>
          cases ho
          rw [if_pos (by rfl)]
          obtain rfl := hI.p28 (hd ⟨28, .data⟩ (by simp) rfl)
          have h26 := hd ⟨26, .data⟩ (by simp) rfl
          obtain ⟨p48, c48, rfl⟩ := own_slice (hI.p26 h26).1
          have hbk := hI.bk0 hl
          have hcb : W.cell? ⟨bk, 0, none⟩ = some (.slice lp K lc) := cell_of_row W bk 0 _ _ _ hbk
          have hfb : W.frozen? ⟨bk, 0, none⟩ = false := by simp [World.frozen?, hbk]
          go_simp
          have hO := only_setCell W bk 0 (.slice p48 (K + 1) c48)
          have hbt : ∀ g, wr.drew.heap.size ≤ g → g < W.heap.size → (W.setCell ⟨bk, 0, none⟩ (.slice p48 (K + 1) c48)).heap[g]? = W.heap[g]? := fun g h1 h2 => hO.block g (fun e => by have := HS.out.bb; have := HS.out.bw; omega)
          have hmc : ∀ (x : Option Nat) b j, some b ≠ x → W.cell? ⟨b, j, none⟩ = some (.int .i64 M) → (W.setCell ⟨bk, 0, none⟩ (.slice p48 (K + 1) c48)).cell? ⟨b, j, none⟩ = some (.int .i64 M) := fun x b j _ hc => marks_book hbk (by simp) hc
          have hsz := Nat.le_of_eq hO.size.symm
          exact hK'.out _ _ ⟨_, _, _, _, _, _, _, _, _, _, _, _, rfl, { t := fun j hj => by unfold came; split; rfl; exact hI.t j hj, os := hI.os, tape := hI.tape, output := hI.output, sz := Nat.le_trans hI.sz hsz, fr := fun k h1 h2 h3 h4 => (hO.block k h2).trans (hI.fr k h1 h2 h3 h4), own := own_blocks hI.own (fun g e _ => hO.block g (fun e2 => by have := (HS.out.bv g e).1; have := HS.out.bb; omega)), p4 := hI.p4, p8 := fun e => (hI.p8 e).kept hbt, p13 := fun e => (hI.p13 e).kept hbt, p22 := fun e => (hI.p22 e).kept hbt, p9 := fun e => (hI.p9 e).later hsz (hmc _), p14 := fun e => (hI.p14 e).later hsz (hmc _), p23 := fun e => (hI.p23 e).later hsz (hmc _), p24 := fun e => (hI.p24 e).kept hbt, p25 := fun e => (hI.p25 e).kept hbt, lvo := fun e => Bool.noConfusion (h26.symm.trans e), p26 := fun e => ⟨own_blocks (hI.p26 e).1 (fun g e1 _ => hO.block g (fun e2 => by rcases (hI.p26 h26).2 g e1 with e3 | e3; exact (HS.out.bl g e3).1.2 e2; (have := HS.out.bb; have := HS.out.bw; omega))), (hI.p26 e).2⟩, p26m := fun e => ⟨(hI.p26m e).1.later hsz (hmc _), (hI.p26m e).2.1.later hsz (hmc _), (hI.p26m e).2.2.1.later hsz (hmc _), (hI.p26m e).2.2.2.later hsz (hmc _)⟩, c24 := hI.c24, c25 := hI.c25, c26 := hI.c26, c29 := fun _ => ⟨h26, hd ⟨4, .phase⟩ (by simp) rfl⟩, p27 := hI.p27, p28 := hI.p28, bk0 := fun e => Bool.noConfusion (show true = false from e), bk1 := fun _ => by simp [World.setCell, Array.getElem?_modify, hbk] }⟩
        | i + 30, hl, ho, hd => exact absurd (Array.getElem?_eq_some_iff.1 ho).1 (by simp)
      · intro l a W hI hall
        obtain ⟨v26, v30, v31, v35, v36, v44, v45, v46, v47, v48, v49, v50, rfl, hI⟩ := hI
        go_wp2
        obtain ⟨ge, rfl, hge, hgC⟩ := hI.p24 (hall 24 (by simp))
        have h26 := hall 26 (by simp)
        have hmm := hI.p26m h26
        exact bodyPost_end (v := .tuple #[]) (by simp [results, Tryd.results22]) rfl ⟨rfl, v48, ge, v31, v36, v45, hI.bk1 (hall 29 (by simp)), (hI.p26 h26).1, fun g hg => ((hI.p26 h26).2 g hg).imp id (Nat.le_trans HG.out.size), Nat.le_trans HG.out.size hge, hgC, hmm.1.less HG.out.size, hmm.2.1.less HG.out.size, hmm.2.2.1.less HG.out.size, hmm.2.2.2.less HG.out.size, hI.os.trans HG.out.os, hI.tape.trans HG.out.tape, hI.output.trans HG.out.output, Nat.le_trans HG.out.size hI.sz, fun j a1 a2 a3 a4 => (hI.fr j (Nat.lt_of_lt_of_le a1 HG.out.size) a2 a3 a4).trans (HG.out.block j a1 a4)⟩
      · refine ⟨undef, undef, undef, undef, undef, undef, undef, undef, undef, undef, undef, undef, rfl, { t := of_decide_eq_true (by kernel_rfl), os := rfl, tape := rfl, output := rfl, sz := Nat.le_refl _, fr := fun _ _ _ _ _ => rfl, own := HOF.out.drew, p4 := fun e => Bool.noConfusion (show false = true from e), p8 := fun e => Bool.noConfusion (show false = true from e), p13 := fun e => Bool.noConfusion (show false = true from e), p22 := fun e => Bool.noConfusion (show false = true from e), p9 := fun e => Bool.noConfusion (show false = true from e), p14 := fun e => Bool.noConfusion (show false = true from e), p23 := fun e => Bool.noConfusion (show false = true from e), p24 := fun e => Bool.noConfusion (show false = true from e), p25 := fun e => Bool.noConfusion (show false = true from e), lvo := fun _ => HLVr.out, p26 := fun e => Bool.noConfusion (show false = true from e), p26m := fun e => Bool.noConfusion (show false = true from e), c24 := fun e => Bool.noConfusion (show false = true from e), c25 := fun e => Bool.noConfusion (show false = true from e), c26 := fun e => Bool.noConfusion (show false = true from e), c29 := fun e => Bool.noConfusion (show false = true from e), p27 := fun e => Bool.noConfusion (show false = true from e), p28 := fun e => Bool.noConfusion (show false = true from e), bk0 := fun _ => HBKr.out, bk1 := fun e => Bool.noConfusion (show false = true from e) }⟩
    · have hlt : k < n := by omega
      have hlt2 : (k : Int) < n := by omega
      rcases ho.2 with ⟨_, h0⟩ | ⟨g, cap, cur, e, hb, -, -, -, -, -⟩
      · omega
      · cases e
        have HS := own_set HO.out hlt (M := .int .i64 M)
        have hcx : ∃ u, wr.cell? ⟨g, k, none⟩ = some u := ⟨_, HS.1.trans (List.getElem?_eq_getElem (by have := HO.out.1; omega))⟩
        obtain ⟨u, hcu⟩ := hcx
        have hfu := HS.2.1
        have HS2 := hide HS.2.2
        clear HS ho
        go_wp2
        go_roundw
        case rel => exact ⟨k + 1, by omega, by go_num, by rw [← fill_step xs _ k n HX.out hlt]; exact HS2.out, HG.out.trans ⟨rfl, rfl, rfl, by simp [World.setCell], fun j hj hne => (only_setCell wr g k _).block j (fun e => hne (by rw [e]; rfl))⟩⟩
        case measure => simp [intOf]; omega

end Go.Proofs.YtcfjhbcpjpgodaaDoor
namespace Go.Proofs.YtcfjhbcpjpgodaaDoor
open Go.RowKit

set_option maxRecDepth 100000 in
set_option maxHeartbeats 6400000 in
theorem looks_any (bk K : Nat) (lp : Option Addr) (lc : Nat) (ge : Nat → Nat) (pp : Nat → Nat → Option Addr) (nn cc : Nat → Nat → Nat) (w : World) (hK : K ≤ 100000000) (hbk : bk < w.heap.size)
    (hb0 : w.cell? ⟨bk, 0, none⟩ = some (.slice lp K lc)) (hb1 : w.cell? ⟨bk, 1, none⟩ = some (.slice none 0 0))
    (hl : Lies w w.heap.size lp K (fun i => .slice (some ⟨ge i, 0, none⟩) 4 4))
    (he : ∀ i k, i < K → k < 4 → ge i < w.heap.size ∧ w.cell? ⟨ge i, k, none⟩ = some (.slice (pp i k) (nn i k) (cc i k)))
    (hm : ∀ i k, i < K → k < 4 → nn i k ≤ 1000 ∧ Lies w w.heap.size (pp i k) (nn i k) (fun _ => .int .i64 (-7000 - (i : Int)))) :
    Calls Tryd.prog 23 #[.pointer (some ⟨bk, 0, none⟩)] w fun e w' => e = .returned (.bool true) ∧ Below w.heap.size w w' := by
  have HL := hide hl
  have HE := hide he
  have HM := hide hm
  have HB0 := hide hb0
  have HB1 := hide hb1
  clear hl he hm hb0 hb1
  go_enter Tryd.func23, Tryd.ntmps23
  go_wp2
  go_loopw [3, 4, 5, 6, 7] (fun a _ _ _ _ wr => ∃ k : Nat, k ≤ 4 ∧ a = .int .i64 k ∧ Below w.heap.size w wr) (fun a _ _ _ _ _ => 4 - (intOf a).toNat)
  case atStart => exact ⟨0, by omega, rfl, Below.refl _ _⟩
  case round =>
    obtain ⟨k, hk, rfl, hb⟩ := hrel
    have HB := hide hb
    clear hb
    by_cases hk4 : k = 4
    · have hk5 : ¬ (k : Int) < 4 := by omega
      clear hk4
      go_wp2
      go_ret
      exact ⟨rfl, HB.out⟩
    · have hk5 : (k : Int) < 4 := by omega
      obtain ⟨wa, hwa⟩ : ∃ z, z = wr := ⟨_, rfl⟩
      subst hwa
      go_wp2
      go_loopw [4, 5] (fun a _ wr => ∃ i : Nat, i ≤ K ∧ a = .int .i64 i ∧ Below w.heap.size w wr) (fun a _ _ => K - (intOf a).toNat)
      case atStart => exact ⟨0, by omega, rfl, HB.out⟩
      case round =>
        clear HB
        obtain ⟨i, hi, rfl, hb⟩ := hrel
        have HB := hide hb
        have hc0 : wr.cell? ⟨bk, 0, none⟩ = some (.slice lp K lc) := (hb.cell (p := ⟨bk, 0, none⟩) (by exact hbk)).trans HB0.out
        have hc1 : wr.cell? ⟨bk, 1, none⟩ = some (.slice none 0 0) := (hb.cell (p := ⟨bk, 1, none⟩) (by exact hbk)).trans HB1.out
        clear hb
        obtain ⟨wb, hwb⟩ : ∃ z, z = wr := ⟨_, rfl⟩
        subst hwb
        by_cases hiK : i = K
        · have hi5 : ¬ (i : Int) < K := by omega
          clear hiK
          go_wp2
          go_loopw [6, 7] (fun a _ wr => a = .int .i64 0 ∧ wr = wb) (fun _ _ _ => 0)
          case atStart => exact ⟨rfl, rfl⟩
          case round =>
            obtain ⟨rfl, rfl⟩ := hrel
            go_wp2
            go_roundw
            case rel => exact ⟨k + 1, by omega, by go_num, HB.out⟩
            case measure => simp [intOf]; omega
        · have hlt : i < K := by omega
          have hi5 : (i : Int) < K := by omega
          obtain ⟨gl, ol, rfl, hgl, hcl⟩ := HL.out i hlt
          obtain ⟨hge, hce⟩ := HE.out i k hlt (by omega)
          obtain ⟨hnn, hmk⟩ := HM.out i k hlt (by omega)
          have HMK := hide hmk
          clear hmk hiK
          go_wp2
          go_loopw [5] (fun a wr => ∃ j : Nat, j ≤ nn i k ∧ a = .int .i64 j ∧ Below w.heap.size w wr) (fun a _ => nn i k - (intOf a).toNat)
          case atStart => exact ⟨0, by omega, rfl, HB.out⟩
          case round =>
            clear HB
            obtain ⟨j, hj, rfl, hb⟩ := hrel
            have HB := hide hb
            have hd0 : wr.cell? ⟨bk, 0, none⟩ = some (.slice (some ⟨gl, ol, none⟩) K lc) := (hb.cell (p := ⟨bk, 0, none⟩) (by exact hbk)).trans HB0.out
            have hd1 : wr.cell? ⟨gl, ol + i, none⟩ = some (.slice (some ⟨ge i, 0, none⟩) 4 4) := (hb.cell (p := ⟨gl, ol + i, none⟩) (by exact hgl)).trans hcl
            have hd2 : wr.cell? ⟨ge i, k, none⟩ = some (.slice (pp i k) (nn i k) (cc i k)) := (hb.cell (p := ⟨ge i, k, none⟩) (by exact hge)).trans hce
            clear hc0 hc1
            by_cases hjn : j = nn i k
            · have hj5 : ¬ (j : Int) < nn i k := by omega
              clear hjn hb
              go_wp2
              go_roundw
              case rel => exact ⟨i + 1, by omega, by go_num, HB.out⟩
              case measure => simp [intOf]; omega
            · have hj4 : j < nn i k := by omega
              have hj5 : (j : Int) < nn i k := by omega
              obtain ⟨b, o, hpp, hbb, hcb⟩ := HMK.out j hj4
              rw [hpp] at hd2
              have hd3 : wr.cell? ⟨b, o + j, none⟩ = some (.int .i64 (-7000 - (i : Int))) := (hb.cell (p := ⟨b, o + j, none⟩) (by exact hbb)).trans hcb
              clear hjn hb hcb
              go_wp2_with fail
              go_quiet (first | (go_at_call 43; refine Calls.quiet_of_same (mark_any i _ (by omega))))
              all_goals go_wp2
              go_roundw
              case rel => exact ⟨j + 1, by omega, by go_num, below_drewN HB.out _⟩
              case measure => simp [intOf]; omega

end Go.Proofs.YtcfjhbcpjpgodaaDoor
namespace Go.Proofs.YtcfjhbcpjpgodaaDoor
open Go.RowKit

/-- One entry of the book: four lists that read as the mark of the number i, in no block x and in none of A. -/
def EntryI (A : Nat → Prop) (x : Option Nat) (w : World) (i : Nat) (ev : Value) : Prop :=
  ∃ (ge : Nat) (pp : Nat → Option Addr) (nn cc : Nat → Nat), ev = .slice (some ⟨ge, 0, none⟩) 4 4 ∧
    w.heap[ge]? = some (.cells #[.slice (pp 0) (nn 0) (cc 0), .slice (pp 1) (nn 1) (cc 1), .slice (pp 2) (nn 2) (cc 2), .slice (pp 3) (nn 3) (cc 3)] 38 (0, 0)) ∧
    ∀ k, k < 4 → nn k ≤ 1000 ∧ ∀ j, j < nn k → ∃ b o, pp k = some ⟨b, o, none⟩ ∧ b < w.heap.size ∧ some b ≠ x ∧ ¬ A b ∧ w.cell? ⟨b, o + j, none⟩ = some (.int .i64 (-7000 - (i : Int)))

/-- The book in block bk, with K entries. -/
def BookI (A : Nat → Prop) (bk base0 K : Nat) (w : World) : Prop :=
  ∃ lv evs, w.heap[bk]? = some (.cells #[lv, .slice none 0 0] 44 (0, 0)) ∧ w.ownsRow base0 98 1 lv K evs ∧ ∀ i ev, evs[i]? = some ev → EntryI A lv.ownBlock w i ev

theorem heap_lt {w : World} {g : Nat} {o : Obj} (h : w.heap[g]? = some o) : g < w.heap.size := by
  rcases Nat.lt_or_ge g w.heap.size with h' | h'
  · exact h'
  · simp [Array.getElem?_eq_none h'] at h

theorem EntryI.avoid {A A' : Nat → Prop} {x : Option Nat} {w : World} {i : Nat} {ev : Value} (h : EntryI A x w i ev) (hA : ∀ b, b < w.heap.size → A' b → A b) : EntryI A' x w i ev := by
  obtain ⟨ge, pp, nn, cc, e, hg, hm⟩ := h
  refine ⟨ge, pp, nn, cc, e, hg, fun k hk => ⟨(hm k hk).1, fun j hj => ?_⟩⟩
  obtain ⟨b, o, e1, h1, h2, h3, h4⟩ := (hm k hk).2 j hj
  exact ⟨b, o, e1, h1, h2, fun h => h3 (hA b h1 h), h4⟩
theorem BookI.avoid {A A' : Nat → Prop} {bk base0 K : Nat} {w : World} (h : BookI A bk base0 K w) (hA : ∀ b, b < w.heap.size → A' b → A b) : BookI A' bk base0 K w := by
  obtain ⟨lv, evs, h1, h2, h3⟩ := h
  exact ⟨lv, evs, h1, h2, fun i ev e => (h3 i ev e).avoid hA⟩

theorem BookI.below {A : Nat → Prop} {bk base0 K : Nat} {w w' : World} (h : BookI A bk base0 K w) (hb : Below w.heap.size w w') : BookI A bk base0 K w' := by
  obtain ⟨lv, evs, h1, h2, h3⟩ := h
  refine ⟨lv, evs, (hb.block bk (heap_lt h1)).trans h1, own_blocks h2 (fun g _ hg => hb.block g hg), fun i ev e => ?_⟩
  obtain ⟨ge, pp, nn, cc, e1, hg, hm⟩ := h3 i ev e
  refine ⟨ge, pp, nn, cc, e1, (hb.block ge (heap_lt hg)).trans hg, fun k hk => ⟨(hm k hk).1, fun j hj => ?_⟩⟩
  obtain ⟨b, o, e2, h4, h5, h6, h7⟩ := (hm k hk).2 j hj
  exact ⟨b, o, e2, Nat.lt_of_lt_of_le h4 hb.size, h5, h6, (hb.cell (p := ⟨b, o + j, none⟩) (by exact h4)).trans h7⟩

theorem BookI.new {A : Nat → Prop} {bk base0 : Nat} {w : World} (h : w.heap[bk]? = some (.cells #[.slice none 0 0, .slice none 0 0] 44 (0, 0))) : BookI A bk base0 0 w :=
  ⟨_, [], h, World.ownsRow_nil _ _ _ _, fun i ev e => by simp at e⟩

/-- The book keeps one list more. -/
theorem keep_book (A A' : Nat → Prop) (bk base0 base K n : Nat) (v : Value) (xs : List Value) (w : World) (hK : K ≤ 100000000) (hn : n ≤ 100) (hB : BookI A bk base0 K w) (hv : w.ownsRow base 3 1 v n xs)
    (h1 : bk < base0) (h2 : bk < base) (h4 : base ≤ w.heap.size) (h5 : base0 ≤ w.heap.size) (hA : ∀ g, v.ownBlock = some g → A g) (hA' : ∀ b, A' b → A b ∧ some b ≠ v.ownBlock ∧ b < w.heap.size) :
    Calls Tryd.prog 22 #[.pointer (some ⟨bk, 0, none⟩), v] w fun e w' => e = .returned (.tuple #[]) ∧ BookI A' bk base0 (K + 1) w' ∧ Below bk w w' ∧ ∀ k, k < w.heap.size → k ≠ bk → some k ≠ v.ownBlock → (∀ t c, w.heap[k]? = some (.cells c t (0, 0)) → t ≠ 98) → w'.heap[k]? = w.heap[k]? := by
  obtain ⟨lv, evs, hb, ho, he⟩ := hB
  have hlen : evs.length = K := by have := ho.1; omega
  have lvt : ∀ g, lv.ownBlock = some g → ∃ c, w.heap[g]? = some (.cells c 98 (0, 0)) := fun g hg => by
    rcases ho.2 with ⟨rfl, _⟩ | ⟨g1, _, c1, rfl, _, hh1, _⟩
    · cases hg
    · cases hg
      exact ⟨c1, hh1⟩
  have lvb : ∀ g, lv.ownBlock = some g → base0 ≤ g := fun g hg => (ho.lt g hg).1
  have vt : ∀ g, v.ownBlock = some g → ∃ c, w.heap[g]? = some (.cells c 3 (0, 0)) := fun g hg => by
    rcases hv.2 with ⟨rfl, _⟩ | ⟨g1, _, c1, rfl, _, hh1, _⟩
    · cases hg
    · cases hg
      exact ⟨c1, hh1⟩
  refine (keep_any bk K base base0 n lv (.slice none 0 0) v evs xs w hK hn hb ho hv h1 h2 h4 h5).mono ?_
  rintro e w' ⟨rfl, lv', ge, v1, v2, v3, hb', ho', hlv', hge, hgC, m0, m1, m2, m3, hos, htp, hout, hsz, hfr⟩
  have hfr2 : ∀ k, k < w.heap.size → k ≠ bk → some k ≠ v.ownBlock → (∀ t c, w.heap[k]? = some (.cells c t (0, 0)) → t ≠ 98) → w'.heap[k]? = w.heap[k]? := fun k k1 k2 k3 k4 =>
    hfr k k1 k2 (fun e => by obtain ⟨c, hc⟩ := lvt k e.symm; exact k4 _ c hc rfl) k3
  refine ⟨rfl, ⟨lv', _, hb', ho', fun i ev hev => ?_⟩, ⟨hos, htp, hout, hsz, fun k hk => hfr k (by omega) (by omega) (fun e => by have := lvb k e.symm; omega) (fun e => by have := (hv.lt k e.symm).1; omega)⟩, hfr2⟩
  by_cases hi : i < K
  · have hev' : evs[i]? = some ev := by rw [List.getElem?_append_left (by omega)] at hev; exact hev
    obtain ⟨g1, pp, nn, cc, e1, hg1, hm⟩ := he i ev hev'
    have hg1lt := heap_lt hg1
    have hg1' : w'.heap[g1]? = w.heap[g1]? := hfr2 g1 hg1lt (fun e => by rw [e, hb] at hg1; simp at hg1) (fun e => by obtain ⟨c, hc⟩ := vt g1 e.symm; rw [hc] at hg1; simp at hg1) (fun t c hc => by rw [hc] at hg1; intro e; subst e; simp at hg1)
    refine ⟨g1, pp, nn, cc, e1, hg1'.trans hg1, fun k hk => ⟨(hm k hk).1, fun j hj => ?_⟩⟩
    obtain ⟨b, o, e2, h6, h7, h8, h9⟩ := (hm k hk).2 j hj
    have hbk : b ≠ bk := fun e => by
      subst e
      rw [cell_of_row w b _ _ _ _ hb] at h9
      match o + j, h9 with
      | 0, h9 =>
        rcases ho.2 with ⟨rfl, _⟩ | ⟨_, _, _, rfl, _⟩
        · simp at h9
        · simp at h9
      | 1, h9 => simp at h9
      | m + 2, h9 => simp at h9
    refine ⟨b, o, e2, Nat.lt_of_lt_of_le h6 hsz, fun e => ?_, fun h => h8 (hA' b h).1, ?_⟩
    · rcases hlv' b e.symm with e3 | e3
      · exact h7 e3.symm
      · omega
    · rw [← h9]
      exact World.cell?_of_block (w := w) (a := ⟨b, o + j, none⟩) (hfr b h6 hbk h7 (fun e => h8 (hA b e.symm)))
  · have hi2 : i = K := by
      have := (List.getElem?_eq_some_iff.1 hev).1
      simp at this
      omega
    subst hi2
    have hev' : ev = .slice (some ⟨ge, 0, none⟩) 4 4 := by
      rw [List.getElem?_append_right (by omega), hlen, Nat.sub_self] at hev
      simpa using hev.symm
    obtain ⟨p0, c0, rfl, l0⟩ := m0
    obtain ⟨p1, c1, rfl, l1⟩ := m1
    obtain ⟨p2, c2, rfl, l2⟩ := m2
    obtain ⟨p3, c3, rfl, l3⟩ := m3
    have hlast : ∀ b, (some b = Value.ownBlock (.slice p0 n c0) ∨ w.heap.size ≤ b) → ¬ A' b := fun b hb2 ha => by
      obtain ⟨_, a2, a3⟩ := hA' b ha
      rcases hb2 with e | e
      · exact a2 e
      · omega
    refine ⟨ge, fun | 0 => p0 | 1 => p1 | 2 => p2 | _ => p3, fun | 0 => n | 1 => n + 1 | 2 => n + 2 | _ => n + 6, fun | 0 => c0 | 1 => c1 | 2 => c2 | _ => c3, hev', hgC, fun k hk => ?_⟩
    match k, hk with
    | 0, _ => exact ⟨by show n ≤ 1000; omega, fun j hj => by obtain ⟨b, o, e, a1, a2, a3⟩ := l0 j hj; exact ⟨b, o, e, a1, a2.1, hlast b a2.2, a3⟩⟩
    | 1, _ => exact ⟨by show n + 1 ≤ 1000; omega, fun j hj => by obtain ⟨b, o, e, a1, a2, a3⟩ := l1 j hj; exact ⟨b, o, e, a1, a2.1, hlast b a2.2, a3⟩⟩
    | 2, _ => exact ⟨by show n + 2 ≤ 1000; omega, fun j hj => by obtain ⟨b, o, e, a1, a2, a3⟩ := l2 j hj; exact ⟨b, o, e, a1, a2.1, hlast b a2.2, a3⟩⟩
    | 3, _ => exact ⟨by show n + 6 ≤ 1000; omega, fun j hj => by obtain ⟨b, o, e, a1, a2, a3⟩ := l3 j hj; exact ⟨b, o, e, a1, a2.1, hlast b a2.2, a3⟩⟩

/-- All that the book holds reads as it was written. -/
theorem looks_book (A : Nat → Prop) (bk base0 K : Nat) (w : World) (hK : K ≤ 100000000) (hB : BookI A bk base0 K w) :
    Calls Tryd.prog 23 #[.pointer (some ⟨bk, 0, none⟩)] w fun e w' => e = .returned (.bool true) ∧ Below w.heap.size w w' := by
  obtain ⟨lv, evs, hb, ho, he⟩ := hB
  have hlen : evs.length = K := by have := ho.1; omega
  have hch : ∀ i, ∃ y : Nat × (Nat → Option Addr) × (Nat → Nat) × (Nat → Nat), i < K → evs[i]? = some (.slice (some ⟨y.1, 0, none⟩) 4 4) ∧
      w.heap[y.1]? = some (.cells #[.slice (y.2.1 0) (y.2.2.1 0) (y.2.2.2 0), .slice (y.2.1 1) (y.2.2.1 1) (y.2.2.2 1), .slice (y.2.1 2) (y.2.2.1 2) (y.2.2.2 2), .slice (y.2.1 3) (y.2.2.1 3) (y.2.2.2 3)] 38 (0, 0)) ∧
      ∀ k, k < 4 → y.2.2.1 k ≤ 1000 ∧ ∀ j, j < y.2.2.1 k → ∃ b o, y.2.1 k = some ⟨b, o, none⟩ ∧ b < w.heap.size ∧ w.cell? ⟨b, o + j, none⟩ = some (.int .i64 (-7000 - (i : Int))) := fun i => by
    by_cases hi : i < K
    · have hev : evs[i]? = some (evs[i]'(by omega)) := List.getElem?_eq_getElem (by omega)
      obtain ⟨ge, pp, nn, cc, e, hg, hm⟩ := he i _ hev
      refine ⟨(ge, pp, nn, cc), fun _ => ⟨by rw [hev, e], hg, fun k hk => ⟨(hm k hk).1, fun j hj => ?_⟩⟩⟩
      obtain ⟨b, o, a1, a2, _, _, a5⟩ := (hm k hk).2 j hj
      exact ⟨b, o, a1, a2, a5⟩
    · exact ⟨(0, fun _ => none, fun _ => 0, fun _ => 0), fun h => absurd h hi⟩
  obtain ⟨f, hf⟩ := Classical.axiomOfChoice hch
  obtain ⟨lp, lc, rfl⟩ := own_slice ho
  refine looks_any bk K lp lc (fun i => (f i).1) (fun i => (f i).2.1) (fun i => (f i).2.2.1) (fun i => (f i).2.2.2) w hK (heap_lt hb) (cell_of_row w bk 0 _ _ _ hb) (cell_of_row w bk 1 _ _ _ hb) ?_ ?_ ?_
  · intro i hi
    rcases ho.2 with ⟨e0, h0⟩ | ⟨g, cap, cur, e0, hbb, hg, hnc, hcm, hcs, ht⟩
    · omega
    · cases e0
      refine ⟨g, 0, rfl, heap_lt hg, ?_⟩
      rw [cell_of_row w g (0 + i) _ _ _ hg, Nat.zero_add]
      have e1 : (cur.toList.take (K * 1))[i]? = evs[i]? := by rw [ht]
      rw [List.getElem?_take, if_pos (by omega)] at e1
      rw [← Array.getElem?_toList, e1]
      exact (hf i hi).1
  · intro i k hi hk
    have h := (hf i hi).2.1
    refine ⟨heap_lt h, ?_⟩
    match k, hk with
    | 0, _ => exact cell_of_row w _ 0 _ _ _ h
    | 1, _ => exact cell_of_row w _ 1 _ _ _ h
    | 2, _ => exact cell_of_row w _ 2 _ _ _ h
    | 3, _ => exact cell_of_row w _ 3 _ _ _ h
  · intro i k hi hk
    refine ⟨((hf i hi).2.2 k hk).1, fun j hj => ?_⟩
    obtain ⟨b, o, a1, a2, a3⟩ := ((hf i hi).2.2 k hk).2 j hj
    exact ⟨b, o, a1, a2, a3⟩

end Go.Proofs.YtcfjhbcpjpgodaaDoor
