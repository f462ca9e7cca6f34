/- Proved here: whom the program's doubleVoters tells: who has sent two messages that differ in one place. -/
import Derived.Test.YtcfjhbcpjpgodaaGreatDoorJ14
import Derived.Test.YtcfjhbcpjpgodaaGreatDoorJ23
import Derived.Test.YtcfjhbcpjpgodaaGreatDoorJ43
import Derived.Test.YtcfjhbcpjpgodaaGreatDoorJ11
import Derived.Deep.MidRow
namespace Go.Proofs.YtcfjhbcpjpgodaaGreatDoor
open Go.RowKit

theorem Tryz.sizePlace : (Tryz.prog.info? 234).map (·.size) = some 3 := by kernel_rfl

theorem PlacesAt.keep {w w' : World} {mb : Nat} {l : List MsgV} (h : PlacesAt w mb l) (hb : Below w.heap.size w w') : PlacesAt w' mb l := by
  obtain ⟨es, c, h1, h2⟩ := h
  exact ⟨es, c, (hb.block mb (row_lt0 h1)).trans h1, h2⟩
theorem PlacesAt.only {w w' : World} {mb g : Nat} {l : List MsgV} (h : PlacesAt w mb l) (ho : Only g w w') (hg : mb ≠ g) : PlacesAt w' mb l := by
  obtain ⟨es, c, h1, h2⟩ := h
  exact ⟨es, c, (ho.block mb hg).trans h1, h2⟩
theorem PlacesAt.lt {w : World} {mb : Nat} {l : List MsgV} (h : PlacesAt w mb l) : mb < w.heap.size := by
  obtain ⟨es, c, h1, h2⟩ := h
  exact row_lt0 h1

theorem Tryz.guardMsg : Tryz.prog.eqGuardType Tryz.prog.depth 57 = false := by kernel_rfl
theorem wpList_neq_msg {ops : Array Oper} {rest : List Oper} {op : Oper} {a : Act} {w : World} {Q : Exit → Act → World → Prop} (hgd : op.guard = none) (x y : Operand) (t2 : TypeId) (ho : op.op = .binOp .neq 57 x y t2) (m m' : MsgV)
    (hx : a.eval x = .agg m.cells) (hy : a.eval y = .agg m'.cells) (h : wpList Tryz.prog ops Q rest (a.put op.dst (.bool (!msgB m m'))) w) : wpList Tryz.prog ops Q (op :: rest) a w :=
  wpList_plain hgd fun _ hK => by
    have h1 := Tryz.neqMsg m m' w
    have h2 := fun o => run_eqGuard_agg (P := Tryz.prog) w o 57 x y m.cells m'.cells Tryz.guardMsg
    unfold Oper.wp execOp
    simp only [ho, hx, hy, h1, h2, Sem.run_bind, Sem.run_pure, Result.andThen_ok]
    exact hK _ _ h

/-- What stands between two rounds. -/
structure DvI (ms : Nat → MsgV) (k : Nat) (b : Nat → Bool) (w wr : World) : Prop where
  two : ∀ id : Nat, id < 8 → (b id = true ↔ Two ms k (id : Int))
  res : wr.heap[w.heap.size]? = some (.cells (boolA fun _ => false) 190 (0, 0))
  map : PlacesAt wr (w.heap.size + 1) (firstL ms k)
  ids : wr.heap[w.heap.size + 2]? = some (.cells (boolA b) 190 (0, 0))
  old : Below w.heap.size w wr

theorem DvI.keep {ms : Nat → MsgV} {k : Nat} {b : Nat → Bool} {w wr w' : World} (h : DvI ms k b w wr) (hb : Below wr.heap.size wr w') : DvI ms k b w w' :=
  ⟨h.two, blk h.res hb, h.map.keep hb, blk h.ids hb, h.old.trans (hb.mono h.old.size)⟩

theorem DvI.new {ms : Nat → MsgV} {k : Nat} {b : Nat → Bool} {w wr w' : World} (h : DvI ms k b w wr) (hn : (firstL ms k).find? (samePl (ms k)) = none) (hm : PlacesAt w' (w.heap.size + 1) (firstL ms k ++ [ms k])) (ho : Only (w.heap.size + 1) wr w') : DvI ms (k + 1) b w w' where
  two := fun id hid => by rw [two_new (firstL_none hn)]; exact h.two id hid
  res := (ho.block _ (by omega)).trans h.res
  map := by unfold firstL; rw [if_pos hn]; exact hm
  ids := (ho.block _ (by omega)).trans h.ids
  old := h.old.trans (ho.below (by omega))

theorem firstL_some {ms : Nat → MsgV} {k : Nat} {m : MsgV} (hs : (firstL ms k).find? (samePl (ms k)) = some m) : firstL ms (k + 1) = firstL ms k ∧ ∃ y, y < k ∧ ms y = m ∧ OfPlace (ms y) (ms k).h (ms k).r (ms k).f := by
  constructor
  · show (if _ then _ else _) = _
    rw [if_neg (by rw [hs]; simp)]
  · obtain ⟨y, h1, h2⟩ := firstL_mem (List.mem_of_find?_eq_some hs)
    exact ⟨y, h1, h2, by rw [h2]; exact (samePl_iff _ _).1 (List.find?_some hs)⟩

theorem DvI.same {ms : Nat → MsgV} {k : Nat} {b : Nat → Bool} {w wr : World} (h : DvI ms k b w wr) (hs : (firstL ms k).find? (samePl (ms k)) = some (ms k)) : DvI ms (k + 1) b w wr where
  two := fun id hid => by
    obtain ⟨_, y, hy, he, _⟩ := firstL_some hs
    rw [two_same hy he]
    exact h.two id hid
  res := h.res
  map := by rw [(firstL_some hs).1]; exact h.map
  ids := h.ids
  old := h.old

theorem DvI.hit {ms : Nat → MsgV} {k : Nat} {b : Nat → Bool} {w wr : World} {m : MsgV} {f : Nat} (h : DvI ms k b w wr) (hs : (firstL ms k).find? (samePl (ms k)) = some m) (hne : m ≠ ms k) (hf : (ms k).f = (f : Int)) (hf8 : f < 8) : DvI ms (k + 1) (yesB b f) w (wr.setCell ⟨w.heap.size + 2, f, none⟩ (.bool true)) where
  two := fun id hid => by
    obtain ⟨_, y, hy, he, hp⟩ := firstL_some hs
    unfold yesB
    split
    · rename_i e
      subst e
      constructor
      · intro _
        rw [← hf]
        exact two_hit hy hp (by rw [he]; exact hne)
      · intro _; rfl
    · rename_i e
      rw [two_other (by rw [hf]; omega)]
      exact h.two id hid
  res := by rw [(only_setCell wr _ f _).block _ (by omega)]; exact h.res
  map := by rw [(firstL_some hs).1]; exact h.map.only (only_setCell wr _ f _) (by omega)
  ids := by
    rw [← boolA_set b f hf8]
    have h1 := h.ids
    simp [World.setCell, Array.getElem?_modify, h1]
  old := h.old.setCell (by show w.heap.size ≤ w.heap.size + 2; omega) _

set_option maxRecDepth 100000 in
set_option maxHeartbeats 32000000 in
theorem doubleVoters_any (ms : Nat → MsgV) (p : Option Addr) (n cap : Nat) (w : World) (hms : MsgsAt w w.heap.size p n ms) (hf : ∀ i, i < n → 0 ≤ (ms i).f ∧ (ms i).f < 8) (hn : n ≤ 1000000000) :
    Calls Tryz.prog 98 #[.slice p n cap] w fun e w' => ∃ b : Nat → Bool, (∀ id : Nat, id < 8 → (b id = true ↔ Two ms n (id : Int))) ∧ e = .returned (.agg (boolA b)) ∧ Below w.heap.size w w' := by
  have HMS := hide hms
  have HF := hide hf
  have HN := hide hn
  have hnx : (n : Int) ≤ 9223372036854775807 := by omega
  have hmm := @run_makeMap Tryz.prog
  clear hms hf hn
  go_enter Tryz.func98, Tryz.ntmps98
  go_wp2
  go_loopw [6, 7, 8, 9, 13] (fun _ _ _ _ i wr => ∃ (k : Nat) (b : Nat → Bool), k ≤ n ∧ i = .int .i64 k ∧ DvI ms k b w wr) (fun _ _ _ _ i _ => n - (intOf i).toNat)
  case atStart =>
    refine ⟨0, fun _ => false, Nat.zero_le _, rfl, ?_⟩
    have b1 : Below w.heap.size w (w.alloc (.cells (boolA fun _ => false) 190)) := (Below.refl _ w).alloc (Nat.le_refl _) _
    have b2 := b1.alloc (by simp) (.map #[] 0)
    have b3 := b2.alloc (by simp; omega) (.cells (boolA fun _ => false) 190)
    refine ⟨fun id _ => ?_, ?_, ?_, ?_, b3⟩
    · constructor
      · intro h; cases h
      · rintro ⟨x, y, h, _⟩; omega
    · rw [Below.heap_alloc _ _ _ (by simp; omega), Below.heap_alloc _ _ _ (by simp)]
      exact heap_alloc_new w _
    · refine ⟨#[], 0, ?_, rfl⟩
      rw [Below.heap_alloc _ _ _ (by simp)]
      have h := heap_alloc_new (w.alloc (.cells (boolA fun _ => false) 190)) (.map #[] 0)
      rw [World.size_alloc] at h
      exact h
    · have h := heap_alloc_new ((w.alloc (.cells (boolA fun _ => false) 190)).alloc (.map #[] 0)) (.cells (boolA fun _ => false) 190)
      rw [World.size_alloc, World.size_alloc] at h
      exact h
  case round =>
    clear hmm
    obtain ⟨k, b, hk, rfl, hI⟩ := hrel
    have HI := hide hI
    have hib : w.heap.size + 2 < wr.heap.size := row_lt0 hI.ids
    clear hI
    by_cases hkn : k = n
    · subst hkn
      go_wp2_with (first | (refine wpList_load_row rfl 190 _ rfl (w.heap.size + 2) rfl 190 (boolA b) (0, 0) _ HI.out.ids Tryz.underlying190 rfl Tryz.sizeBools ?_) | (refine wpList_store_rowG rfl 190 _ _ rfl w.heap.size (boolA b) rfl rfl 190 _ HI.out.res rfl (by simp [boolA, Value.oneCell']) Tryz.sizeBools ?_; intro w3 hq3 ho3))
      refine bodyPost_ret (v := .agg (boolA b)) (results_rowG1 Tryz.results98 _ _ w.heap.size 190 _ _ rfl hq3 Tryz.underlying190 rfl Tryz.sizeBools) rfl ⟨b, HI.out.two, rfl, HI.out.old.trans (ho3.below (Nat.le_refl _))⟩
    · have hlt : k < n := by omega
      have hlt2 : (k : Int) < n := by omega
      have HK := hide hlt
      have hkx : k ≤ 1000000000 := by have := HN.out; omega
      obtain ⟨pb, po, rfl, hpb, hrg⟩ := HMS.out.below HI.out.old k hlt
      obtain ⟨hf0, hf8⟩ := HF.out k hlt
      have HRG := hide hrg
      clear hrg hkn
      obtain ⟨m, hm⟩ : ∃ x, x = ms k := ⟨_, rfl⟩
      rw [← hm] at hf0 hf8 HRG
      obtain ⟨f, hfe⟩ : ∃ f : Nat, m.f = (f : Int) := ⟨m.f.toNat, by omega⟩
      have HFE := hide hfe
      obtain ⟨K, H, R, Fm, V, nl, s⟩ := m
      have hfm : Fm = (f : Int) := hfe
      subst hfm
      have HM := hide hm
      have hfi : (f : Int) < 8 := by simp only at hf8; exact hf8
      clear hm hfe hf0 hf8 hlt
      cases hfd : (firstL ms k).find? (samePl (ms k)) with
      | none =>
        have HN2 := hide hfd
        have HN3 : Hid ((firstL ms k).find? (samePl ⟨K, H, R, (f : Int), V, nl, s⟩) = none) := by unfold Hid; rw [HM.out]; exact hfd
        clear hfd
        go_wp2_with (first | (refine wpList_load_mid rfl 57 _ rfl pb (po + k * 7) rfl _ _ HRG.out Tryz.underlying57 rfl Tryz.sizeMsg ?_) |
          (refine wpList_store_new rfl 57 _ _ rfl wr #[.int .i64 K, .int .i64 H, .int .i64 R, .int .i64 (f : Int), .int .i64 V, .bool nl, .string s] rfl rfl 57 _ rfl (by simp [Value.oneCell']) Tryz.sizeMsg ?_; intro w2 hq2 hb2 hz2; have q1 : w2.cell? ⟨wr.heap.size, 1, none⟩ = some (.int .i64 H) := cell_of_row w2 _ 1 _ _ _ hq2; have q2 : w2.cell? ⟨wr.heap.size, 2, none⟩ = some (.int .i64 R) := cell_of_row w2 _ 2 _ _ _ hq2; have q3 : w2.cell? ⟨wr.heap.size, 3, none⟩ = some (.int .i64 (f : Int)) := cell_of_row w2 _ 3 _ _ _ hq2; have HQ2 := hide hq2; have HI2 := hide (HI.out.keep hb2); have HZ2 := hide hz2; clear hq2 hz2 hb2) | (refine wpList_store_new rfl 234 _ _ rfl w2 #[.int .i64 H, .int .i64 R, .int .i64 (f : Int)] rfl rfl 234 _ rfl (by simp [Value.oneCell']) Tryz.sizePlace ?_; intro w3 hq3 hb3 hz3; have HQ3 := hide hq3; have HQ23 := hide (blk HQ2.out hb3); have HI3 := hide (HI2.out.keep hb3); have HZ3 := hide hz3; clear hq3 hz3 hb3 q1 q2 q3) | (refine wpList_load_row rfl 234 _ rfl w2.heap.size rfl 234 #[.int .i64 H, .int .i64 R, .int .i64 (f : Int)] (0, 0) _ HQ3.out Tryz.underlying234 rfl Tryz.sizePlace ?_) | (refine wpList_lookup_run rfl 232 _ _ true rfl _ _ _ rfl rfl (lookup_no (w.heap.size + 1) (firstL ms k) ⟨K, H, R, (f : Int), V, nl, s⟩ w3 HI3.out.map HN3.out) ?_) | (refine wpList_store_new rfl 57 _ _ rfl w3 #[.int .i64 0, .int .i64 0, .int .i64 0, .int .i64 0, .int .i64 0, .bool false, .string ⟨#[]⟩] rfl rfl 57 _ rfl (by simp [Value.oneCell']) Tryz.sizeMsg ?_; intro w4 hq4 hb4 hz4; have HQ34 := hide (blk HQ3.out hb4); have HQ24 := hide (blk HQ23.out hb4); have HI4 := hide (HI3.out.keep hb4); clear hq4 hz4 hb4) | (refine wpList_load_row rfl 234 _ rfl w2.heap.size rfl 234 #[.int .i64 H, .int .i64 R, .int .i64 (f : Int)] (0, 0) _ HQ34.out Tryz.underlying234 rfl Tryz.sizePlace ?_) | (refine wpList_load_row rfl 57 _ rfl wr.heap.size rfl 57 #[.int .i64 K, .int .i64 H, .int .i64 R, .int .i64 (f : Int), .int .i64 V, .bool nl, .string s] (0, 0) _ HQ24.out Tryz.underlying57 rfl Tryz.sizeMsg ?_) | (obtain ⟨w5, hu5, hp5, ho5⟩ := update_new (w.heap.size + 1) (firstL ms k) ⟨K, H, R, (f : Int), V, nl, s⟩ w4 HI4.out.map HN3.out; refine wpList_mapUpdate_run rfl 232 _ _ _ rfl _ _ _ rfl rfl rfl hu5 ?_; have HI5 := hide (HI4.out.new HN2.out (by rw [← HM.out]; exact hp5) ho5); clear hu5 hp5 ho5) | go_in)
        go_roundw
        case rel => exact ⟨k + 1, b, HK.out, by go_num, HI5.out⟩
        case measure => have := HK.out; simp [intOf]; omega
      | some m2 =>
        obtain ⟨K2, H2, R2, F2, V2, nl2, s2⟩ := m2
        have HS2 := hide hfd
        have HS3 : Hid ((firstL ms k).find? (samePl ⟨K, H, R, (f : Int), V, nl, s⟩) = some ⟨K2, H2, R2, F2, V2, nl2, s2⟩) := by unfold Hid; rw [HM.out]; exact hfd
        clear hfd
        cases hmb : msgB ⟨K2, H2, R2, F2, V2, nl2, s2⟩ ⟨K, H, R, (f : Int), V, nl, s⟩ with
        | true =>
          have HME := hide ((msgB_iff _ _).1 hmb)
          have HMB := hide hmb
          clear hmb
          go_wp2_with (first | (refine wpList_load_mid rfl 57 _ rfl pb (po + k * 7) rfl _ _ HRG.out Tryz.underlying57 rfl Tryz.sizeMsg ?_) |
            (refine wpList_store_new rfl 57 _ _ rfl wr #[.int .i64 K, .int .i64 H, .int .i64 R, .int .i64 (f : Int), .int .i64 V, .bool nl, .string s] rfl rfl 57 _ rfl (by simp [Value.oneCell']) Tryz.sizeMsg ?_; intro w2 hq2 hb2 hz2; have q1 : w2.cell? ⟨wr.heap.size, 1, none⟩ = some (.int .i64 H) := cell_of_row w2 _ 1 _ _ _ hq2; have q2 : w2.cell? ⟨wr.heap.size, 2, none⟩ = some (.int .i64 R) := cell_of_row w2 _ 2 _ _ _ hq2; have q3 : w2.cell? ⟨wr.heap.size, 3, none⟩ = some (.int .i64 (f : Int)) := cell_of_row w2 _ 3 _ _ _ hq2; have HQ2 := hide hq2; have HI2 := hide (HI.out.keep hb2); have HZ2 := hide hz2; clear hq2 hz2 hb2) | (refine wpList_store_new rfl 234 _ _ rfl w2 #[.int .i64 H, .int .i64 R, .int .i64 (f : Int)] rfl rfl 234 _ rfl (by simp [Value.oneCell']) Tryz.sizePlace ?_; intro w3 hq3 hb3 hz3; have HQ3 := hide hq3; have HQ23 := hide (blk HQ2.out hb3); have HI3 := hide (HI2.out.keep hb3); have HZ3 := hide hz3; clear hq3 hz3 hb3 q1 q2 q3) | (refine wpList_load_row rfl 234 _ rfl w2.heap.size rfl 234 #[.int .i64 H, .int .i64 R, .int .i64 (f : Int)] (0, 0) _ HQ3.out Tryz.underlying234 rfl Tryz.sizePlace ?_) | (refine wpList_lookup_run rfl 232 _ _ true rfl _ _ _ rfl rfl (lookup_yes (w.heap.size + 1) (firstL ms k) ⟨K, H, R, (f : Int), V, nl, s⟩ ⟨K2, H2, R2, F2, V2, nl2, s2⟩ w3 HI3.out.map HS3.out) ?_) | (refine wpList_store_new rfl 57 _ _ rfl w3 #[.int .i64 K2, .int .i64 H2, .int .i64 R2, .int .i64 F2, .int .i64 V2, .bool nl2, .string s2] rfl rfl 57 _ rfl (by simp [Value.oneCell']) Tryz.sizeMsg ?_; intro w4 hq4 hb4 hz4; have HQ4 := hide hq4; have HQ24 := hide (blk HQ23.out hb4); have HI4 := hide (HI3.out.keep hb4); have q43 : w4.cell? ⟨wr.heap.size, 3, none⟩ = some (.int .i64 (f : Int)) := cell_of_row w4 _ 3 _ _ _ HQ24.out; have q44 : w4.cell? ⟨w.heap.size + 2, f, none⟩ = some (.bool (b f)) := (cell_of_row w4 _ f _ _ _ HI4.out.ids).trans (boolA_get b f (by omega)); have q45 : w4.frozen? ⟨w.heap.size + 2, f, none⟩ = false := frozen_row HI4.out.ids f; clear hq4 hz4 hb4) |
            (refine wpList_load_row rfl 57 _ rfl w3.heap.size rfl 57 #[.int .i64 K2, .int .i64 H2, .int .i64 R2, .int .i64 F2, .int .i64 V2, .bool nl2, .string s2] (0, 0) _ HQ4.out Tryz.underlying57 rfl Tryz.sizeMsg ?_) | (refine wpList_load_row rfl 57 _ rfl wr.heap.size rfl 57 #[.int .i64 K, .int .i64 H, .int .i64 R, .int .i64 (f : Int), .int .i64 V, .bool nl, .string s] (0, 0) _ HQ24.out Tryz.underlying57 rfl Tryz.sizeMsg ?_) | (refine wpList_neq_msg rfl _ _ _ rfl ⟨K2, H2, R2, F2, V2, nl2, s2⟩ ⟨K, H, R, (f : Int), V, nl, s⟩ rfl rfl ?_; rw [HMB.out]) | go_in)
          go_roundw
          case rel => exact ⟨k + 1, b, HK.out, by go_num, HI4.out.same (by rw [HS2.out, HME.out, HM.out])⟩
          case measure => have := HK.out; simp [intOf]; omega
        | false =>
          have HME : Hid (MsgV.mk K2 H2 R2 F2 V2 nl2 s2 ≠ ms k) := by
            unfold Hid
            rw [← HM.out]
            intro e
            rw [(msgB_iff _ _).2 e] at hmb
            cases hmb
          have HMB := hide hmb
          clear hmb
          go_wp2_with (first | (refine wpList_load_mid rfl 57 _ rfl pb (po + k * 7) rfl _ _ HRG.out Tryz.underlying57 rfl Tryz.sizeMsg ?_) |
            (refine wpList_store_new rfl 57 _ _ rfl wr #[.int .i64 K, .int .i64 H, .int .i64 R, .int .i64 (f : Int), .int .i64 V, .bool nl, .string s] rfl rfl 57 _ rfl (by simp [Value.oneCell']) Tryz.sizeMsg ?_; intro w2 hq2 hb2 hz2; have q1 : w2.cell? ⟨wr.heap.size, 1, none⟩ = some (.int .i64 H) := cell_of_row w2 _ 1 _ _ _ hq2; have q2 : w2.cell? ⟨wr.heap.size, 2, none⟩ = some (.int .i64 R) := cell_of_row w2 _ 2 _ _ _ hq2; have q3 : w2.cell? ⟨wr.heap.size, 3, none⟩ = some (.int .i64 (f : Int)) := cell_of_row w2 _ 3 _ _ _ hq2; have HQ2 := hide hq2; have HI2 := hide (HI.out.keep hb2); have HZ2 := hide hz2; clear hq2 hz2 hb2) | (refine wpList_store_new rfl 234 _ _ rfl w2 #[.int .i64 H, .int .i64 R, .int .i64 (f : Int)] rfl rfl 234 _ rfl (by simp [Value.oneCell']) Tryz.sizePlace ?_; intro w3 hq3 hb3 hz3; have HQ3 := hide hq3; have HQ23 := hide (blk HQ2.out hb3); have HI3 := hide (HI2.out.keep hb3); have HZ3 := hide hz3; clear hq3 hz3 hb3 q1 q2 q3) | (refine wpList_load_row rfl 234 _ rfl w2.heap.size rfl 234 #[.int .i64 H, .int .i64 R, .int .i64 (f : Int)] (0, 0) _ HQ3.out Tryz.underlying234 rfl Tryz.sizePlace ?_) | (refine wpList_lookup_run rfl 232 _ _ true rfl _ _ _ rfl rfl (lookup_yes (w.heap.size + 1) (firstL ms k) ⟨K, H, R, (f : Int), V, nl, s⟩ ⟨K2, H2, R2, F2, V2, nl2, s2⟩ w3 HI3.out.map HS3.out) ?_) | (refine wpList_store_new rfl 57 _ _ rfl w3 #[.int .i64 K2, .int .i64 H2, .int .i64 R2, .int .i64 F2, .int .i64 V2, .bool nl2, .string s2] rfl rfl 57 _ rfl (by simp [Value.oneCell']) Tryz.sizeMsg ?_; intro w4 hq4 hb4 hz4; have HQ4 := hide hq4; have HQ24 := hide (blk HQ23.out hb4); have HI4 := hide (HI3.out.keep hb4); have q43 : w4.cell? ⟨wr.heap.size, 3, none⟩ = some (.int .i64 (f : Int)) := cell_of_row w4 _ 3 _ _ _ HQ24.out; have q44 : w4.cell? ⟨w.heap.size + 2, f, none⟩ = some (.bool (b f)) := (cell_of_row w4 _ f _ _ _ HI4.out.ids).trans (boolA_get b f (by omega)); have q45 : w4.frozen? ⟨w.heap.size + 2, f, none⟩ = false := frozen_row HI4.out.ids f; clear hq4 hz4 hb4) |
            (refine wpList_load_row rfl 57 _ rfl w3.heap.size rfl 57 #[.int .i64 K2, .int .i64 H2, .int .i64 R2, .int .i64 F2, .int .i64 V2, .bool nl2, .string s2] (0, 0) _ HQ4.out Tryz.underlying57 rfl Tryz.sizeMsg ?_) | (refine wpList_load_row rfl 57 _ rfl wr.heap.size rfl 57 #[.int .i64 K, .int .i64 H, .int .i64 R, .int .i64 (f : Int), .int .i64 V, .bool nl, .string s] (0, 0) _ HQ24.out Tryz.underlying57 rfl Tryz.sizeMsg ?_) | (refine wpList_neq_msg rfl _ _ _ rfl ⟨K2, H2, R2, F2, V2, nl2, s2⟩ ⟨K, H, R, (f : Int), V, nl, s⟩ rfl rfl ?_; rw [HMB.out]) | go_in)
          go_roundw
          case rel => exact ⟨k + 1, yesB b f, HK.out, by go_num, HI4.out.hit HS2.out HME.out (by rw [← HM.out]) (by omega)⟩
          case measure => have := HK.out; simp [intOf]; omega

end Go.Proofs.YtcfjhbcpjpgodaaGreatDoor
