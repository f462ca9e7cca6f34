/- Proved here: whom the document's Blame blames. -/
import Derived.Test.YtcfjhbcpjpgodaaDoorBlameSpec
import Derived.BigQuiet
import Derived.WalkSmall
namespace Go.Proofs.YtcfjhbcpjpgodaaDoor
open Go.RowKit

theorem msg_cells {w : World} {g : Nat} {m : MsgV} (h : w.heap[g]? = some (.cells m.cells 28 (0, 0))) : w.cell? ⟨g, 0, none⟩ = some (.int .i64 m.k) ∧ w.cell? ⟨g, 1, none⟩ = some (.int .i64 m.h) ∧ w.cell? ⟨g, 2, none⟩ = some (.int .i64 m.r) ∧ w.cell? ⟨g, 3, none⟩ = some (.int .i64 m.f) :=
  ⟨cell_of_row w g 0 _ _ _ h, cell_of_row w g 1 _ _ _ h, cell_of_row w g 2 _ _ _ h, cell_of_row w g 3 _ _ _ h⟩
theorem msg_stays {w w' : World} {g : Nat} {o x : Obj} (h : w.heap[g]? = some x) (ho : Only w.heap.size (w.alloc o) w') : w'.heap[g]? = some x := by
  have hlt : g < w.heap.size := by
    rcases Nat.lt_or_ge g w.heap.size with h' | h'
    · exact h'
    · simp [Array.getElem?_eq_none h'] at h
  rw [ho.block g (by omega), Below.heap_alloc w o g hlt]
  exact h

theorem Tryd.sizeMsg : (Tryd.prog.info? 28).map (·.size) = some 7 := by kernel_rfl

set_option linter.unusedSimpArgs false in
set_option maxRecDepth 100000 in
set_option maxHeartbeats 3200000 in
theorem refBlame_any (F : Nat → Prop) (rb n : Nat) (sg : Nat → List ByteArray) (fr : Nat → ByteArray) (p : Option Addr) (m cap : Nat) (w : World) (hR : RingI F rb n sg w) (hF : ∀ k, F k → k < w.heap.size) (hm : m ≤ maxLen)
    (hl : Lies w w.heap.size p m (fun i => .string (fr i))) (hs : ∀ i, i < m → (fr i).size ≤ maxLen) :
    Calls Tryd.prog 35 #[.pointer (some ⟨rb, 0, none⟩), .slice p m cap] w fun e w' => ∃ v, e = .returned v ∧ w'.ownsRow w.heap.size 3 1 v (blameL sg n fr m 8).length ((blameL sg n fr m 8).map fun (i : Nat) => Value.int .i64 (i : Int)) ∧ Below w.heap.size w w' := by
  obtain ⟨i3, hi, hz0, hz1, hz2⟩ := info_parts Tryd.infoInt
  have HR := hide hR
  have HFB := hide hF
  have HL := hide hl
  have HS := hide hs
  have hmx : m ≤ 9223372036854775807 := by unfold maxLen at hm; omega
  clear hR hF hl hs hm
  go_enter Tryd.func35, Tryd.ntmps35
  go_wp2
  go_loopw [5, 6, 7, 8, 9, 10, 11, 12, 13, 14, 15] (fun v i _ _ _ _ _ _ _ _ _ wr => ∃ id : Nat, id ≤ 8 ∧ i = .int .i64 id ∧ wr.ownsRow w.heap.size 3 1 v (blameL sg n fr m id).length ((blameL sg n fr m id).map fun (i : Nat) => Value.int .i64 (i : Int)) ∧ Below w.heap.size w wr) (fun _ i _ _ _ _ _ _ _ _ _ _ => 8 - (intOf i).toNat)
  case atStart => exact ⟨0, by omega, rfl, World.ownsRow_nil _ _ _ _, Below.refl _ _⟩
  case round =>
    obtain ⟨id, hid, rfl, ho, hb⟩ := hrel
    have HO := hide ho
    have HB := hide hb
    clear ho hb
    by_cases h8 : id = 8
    · subst h8
      go_wp2
      go_ret
      exact ⟨_, rfl, HO.out, HB.out⟩
    · have hlt8 : (id : Int) < 8 := by omega
      have HID : Hid (id < 8) := by unfold Hid; omega
      clear h8 hid
      go_wp2
      obtain ⟨w8, hw8⟩ : ∃ z, z = wr := ⟨_, rfl⟩
      subst hw8
      go_loopw [7, 8, 9, 10, 11, 12, 13, 14, 15] (fun bd i _ _ _ _ _ _ _ ws => ∃ (x : Nat) (o : Bool), x ≤ m ∧ i = .int .i64 x ∧ bd = .bool o ∧ (o = true ↔ BadTo sg n id fr x 0) ∧ Below w8.heap.size w8 ws) (fun _ i _ _ _ _ _ _ _ _ => m - (intOf i).toNat)
      case atStart => exact ⟨0, false, by omega, rfl, rfl, by simp [BadTo.zero], Below.refl _ _⟩
      case round =>
        obtain ⟨x, o, hx, rfl, rfl, hbad, hbw⟩ := hrel
        have HBAD := hide hbad
        have HBW := hide hbw
        clear hbad hbw
        by_cases hxm : x = m
        · have hge : ¬ (x : Int) < m := by omega
          have HBM : Hid (o = true ↔ BadTo sg n id fr m 0) := by have := HBAD.out; rw [hxm] at this; exact this
          have HOW := hide (own_blocks HO.out (fun g _ hg => HBW.out.block g hg))
          have HBX : Hid (Below w.heap.size w wr) := HB.out.trans (HBW.out.mono HB.out.size)
          have hsz := HBX.out.size
          clear hxm hx
          cases o with
          | false =>
            have HBN := hide (blameL_no (fun h => Bool.noConfusion (HBM.out.2 h)))
            go_wp2
            go_roundw
            case rel => exact ⟨id + 1, HID.out, by go_num, by rw [HBN.out]; exact HOW.out, HBX.out⟩
            case measure => have := HID.out; simp [intOf]; omega
          | true =>
            have HBY := hide (blameL_yes (HBM.out.1 rfl))
            have hbl := blameL_len sg n fr m id
            have hid8 : id ≤ 8 := Nat.le_of_lt HID.out
            go_wp2_with (first | (at_builtin; refine wpList_append_own _ rfl _ _ 38 rfl w.heap.size 3 i3 (.int .i64 0) 1 8 Tryd.underlying38 hi hz0 hz1 hz2 rfl (by decide) _ _ _ rfl (HOW.out.alloc _) ⟨wr.heap.size, 0, none⟩ 1 1 [.int .i64 (id : Int)] rfl rfl ?c1 ?c2 ?c3 ?c4 ?c5 ?_) | go_in)
            case c2 => first | rfl | (intro u hu; simp at hu; subst hu; rfl)
            case c3 => unfold maxLen; omega
            case c4 => omega
            case c5 => first | omega | (simp; omega)
            intro v' w9 hown hgrow _
            have HO9 := hide hown
            have HB9 := hide ((HBX.out.alloc hsz _).grown hgrow (by simp; omega) (fun k hk => (HOW.out.lt k hk).1))
            clear hown hgrow
            go_wp2
            go_roundw
            case rel => exact ⟨id + 1, HID.out, by go_num, by rw [HBY.out, List.length_append, List.map_append]; exact HO9.out, HB9.out⟩
            case measure => have := HID.out; simp [intOf]; omega
        · have hxlt : x < m := by omega
          have hxlt2 : (x : Int) < m := by omega
          have HXM := hide hxlt
          clear hxm hx
          go_wp2
          obtain ⟨wx, hwx⟩ : ∃ z, z = wr := ⟨_, rfl⟩
          subst hwx
          go_loopw [7, 9, 10, 11, 12, 13, 14, 15] (fun bd kk _ _ _ _ _ _ wt => ∃ (y : Nat) (o : Bool), y ≤ x ∧ kk = .int .i64 y ∧ bd = .bool o ∧ (o = true ↔ BadTo sg n id fr x y) ∧ Below wx.heap.size wx wt) (fun _ kk _ _ _ _ _ _ _ => x - (intOf kk).toNat)
          case atStart => exact ⟨0, o, by omega, rfl, rfl, HBAD.out, Below.refl _ _⟩
          case round =>
            clear HBAD
            obtain ⟨y, o, hy, rfl, rfl, hbd, hbt⟩ := hrel
            have HBD := hide hbd
            have HBT := hide hbt
            clear hbd hbt
            by_cases hyx : y = x
            · have hge : ¬ (y : Int) < x := by omega
              have HNX : Hid (o = true ↔ BadTo sg n id fr (x + 1) 0) := by have := HBD.out; rw [hyx, BadTo.next] at this; exact this
              have HBY : Hid (Below w8.heap.size w8 wr) := HBW.out.trans (HBT.out.mono HBW.out.size)
              clear hyx hy
              go_wp2
              go_roundw
              case rel => exact ⟨x + 1, o, HXM.out, by go_num, rfl, HNX.out, HBY.out⟩
              case measure => have := HXM.out; simp [intOf]; omega
            · have hylt : y < x := by omega
              have hylt2 : (y : Int) < x := by omega
              have HYX := hide hylt
              clear hyx hy
              obtain ⟨fb, fo, rfl, hfb, hcx⟩ := HL.out x HXM.out
              obtain ⟨fb2, fo2, he2, hfb2, hcy⟩ := HL.out y (Nat.lt_trans hylt HXM.out)
              cases he2
              have HBA : Hid (Below w.heap.size w wr) := (HB.out.trans (HBW.out.mono HB.out.size)).trans (HBT.out.mono (Nat.le_trans HB.out.size HBW.out.size))
              have hx1 : wr.cell? ⟨fb, fo + x, none⟩ = some (.string (fr x)) := (HBA.out.cell (p := ⟨fb, fo + x, none⟩) (by exact hfb)).trans hcx
              have hym : (y : Int) < m := by have := HXM.out; omega
              have hxm2 : (x : Int) < m := by have := HXM.out; omega
              go_wp2_with fail
              refine (refDecode_at (fr x) wr (HS.out x HXM.out)).mono ?_
              rintro e wa ⟨rfl, hba⟩
              have HBra := hide hba
              have HBwa : Hid (Below w.heap.size w wa) := HBA.out.trans (hba.mono HBA.out.size)
              have hswa : w.heap.size ≤ wa.heap.size := HBwa.out.size
              have HBxa : Hid (Below wx.heap.size wx wa) := HBT.out.trans (hba.mono HBT.out.size)
              clear hba hx1
              go_wp2_with (refine wpList_store_rowG rfl 28 _ _ rfl wa.heap.size (decV (fr x)).cells rfl rfl 28 #[.int .i64 0, .int .i64 0, .int .i64 0, .int .i64 0, .int .i64 0, .bool false, .string ⟨#[]⟩] (heap_alloc_new wa _) rfl (by simp [Value.oneCell', MsgV.cells]) Tryd.sizeMsg ?_; intro wb hqb hob; have HQB := hide hqb; have HOB := hide hob; have hy1 := (((HBwa.out.alloc hswa _).trans (hob.below hswa)).cell (p := ⟨fb, fo + y, none⟩) (by exact hfb2)).trans hcy; clear hqb hob)
              have HBab : Hid (Below wa.heap.size wa wb) := ((Below.refl _ wa).alloc (Nat.le_refl _) _).trans (HOB.out.below (Nat.le_refl _))
              refine (refDecode_at (fr y) wb (HS.out y (Nat.lt_trans HYX.out HXM.out))).mono ?_
              rintro e wc ⟨rfl, hbc⟩
              have HBac : Hid (Below wa.heap.size wa wc) := HBab.out.trans (hbc.mono HBab.out.size)
              have HBxc : Hid (Below wx.heap.size wx wc) := HBxa.out.trans (HBac.out.mono HBxa.out.size)
              have HBwc : Hid (Below w.heap.size w wc) := HBwa.out.trans (HBac.out.mono hswa)
              have hswc : w.heap.size ≤ wc.heap.size := HBwc.out.size
              have HQC : Hid (wc.heap[wa.heap.size]? = some (.cells (decV (fr x)).cells 28 (0, 0))) := (hbc.block _ (by rcases Nat.lt_or_ge wa.heap.size wb.heap.size with h | h; exact h; (have h2 := HQB.out; simp [Array.getElem?_eq_none h] at h2))).trans HQB.out
              clear hbc hy1
              cases hok1 : decOk (fr x) with
              | false =>
                have HPN : Hid (¬ pairB sg n id (fr x) (fr y)) := fun h => by
                  obtain ⟨q1, q2, q3, q4, q5, q6, q7, q8, q9, q10, q11⟩ := h
                  rw [q1] at hok1; cases hok1
                have HST : Hid (o = true ↔ BadTo sg n id fr x (y + 1)) := by
                  unfold Hid
                  rw [BadTo.step HYX.out, HBD.out]
                  exact ⟨Or.inl, fun h => h.elim (fun h => h) (fun h => absurd h HPN.out)⟩
                go_wp2_with (refine wpList_store_rowG rfl 28 _ _ rfl wc.heap.size (decV (fr y)).cells rfl rfl 28 #[.int .i64 0, .int .i64 0, .int .i64 0, .int .i64 0, .int .i64 0, .bool false, .string ⟨#[]⟩] (heap_alloc_new wc _) rfl (by simp [Value.oneCell', MsgV.cells]) Tryd.sizeMsg ?_; intro we hqe hoe; have HOE := hide hoe; obtain ⟨kb0, kb1, kb2, kb3⟩ := msg_cells hqe; obtain ⟨ka0, ka1, ka2, ka3⟩ := msg_cells (msg_stays HQC.out hoe); have hx2 := (((HBwc.out.alloc hswc _).trans (hoe.below hswc)).cell (p := ⟨fb, fo + x, none⟩) (by exact hfb)).trans hcx; have hy2 := (((HBwc.out.alloc hswc _).trans (hoe.below hswc)).cell (p := ⟨fb, fo + y, none⟩) (by exact hfb2)).trans hcy; clear hqe hoe)
                have HBE : Hid (Below wx.heap.size wx we) := HBxc.out.trans ((((Below.refl wc.heap.size wc).alloc (Nat.le_refl _) _).trans (HOE.out.below (Nat.le_refl _))).mono HBxc.out.size)
                go_roundw
                case rel => exact ⟨y + 1, o, HYX.out, by go_num, rfl, HST.out, HBE.out⟩
                case measure => have := HYX.out; simp [intOf]; omega
              | true =>
                have G1 := hide hok1
                cases hok2 : decOk (fr y) with
                | false =>
                  have HPN : Hid (¬ pairB sg n id (fr x) (fr y)) := fun h => by
                    obtain ⟨q1, q2, q3, q4, q5, q6, q7, q8, q9, q10, q11⟩ := h
                    rw [q2] at hok2; cases hok2
                  have HST : Hid (o = true ↔ BadTo sg n id fr x (y + 1)) := by
                    unfold Hid
                    rw [BadTo.step HYX.out, HBD.out]
                    exact ⟨Or.inl, fun h => h.elim (fun h => h) (fun h => absurd h HPN.out)⟩
                  go_wp2_with (refine wpList_store_rowG rfl 28 _ _ rfl wc.heap.size (decV (fr y)).cells rfl rfl 28 #[.int .i64 0, .int .i64 0, .int .i64 0, .int .i64 0, .int .i64 0, .bool false, .string ⟨#[]⟩] (heap_alloc_new wc _) rfl (by simp [Value.oneCell', MsgV.cells]) Tryd.sizeMsg ?_; intro we hqe hoe; have HOE := hide hoe; obtain ⟨kb0, kb1, kb2, kb3⟩ := msg_cells hqe; obtain ⟨ka0, ka1, ka2, ka3⟩ := msg_cells (msg_stays HQC.out hoe); have hx2 := (((HBwc.out.alloc hswc _).trans (hoe.below hswc)).cell (p := ⟨fb, fo + x, none⟩) (by exact hfb)).trans hcx; have hy2 := (((HBwc.out.alloc hswc _).trans (hoe.below hswc)).cell (p := ⟨fb, fo + y, none⟩) (by exact hfb2)).trans hcy; clear hqe hoe)
                  have HBE : Hid (Below wx.heap.size wx we) := HBxc.out.trans ((((Below.refl wc.heap.size wc).alloc (Nat.le_refl _) _).trans (HOE.out.below (Nat.le_refl _))).mono HBxc.out.size)
                  go_roundw
                  case rel => exact ⟨y + 1, o, HYX.out, by go_num, rfl, HST.out, HBE.out⟩
                  case measure => have := HYX.out; simp [intOf]; omega
                | true =>
                  have G2 := hide hok2
                  by_cases g3 : (decV (fr x)).f = (id : Int)
                  · have c3 : ((decV (fr x)).f == (id : Int)) = true := by simpa using g3
                    have d3 : ((decV (fr x)).f != (id : Int)) = false := by simpa using g3
                    have G3 := hide g3
                    clear g3
                    by_cases g4 : (decV (fr y)).f = (id : Int)
                    · have c4 : ((decV (fr y)).f == (id : Int)) = true := by simpa using g4
                      have d4 : ((decV (fr y)).f != (id : Int)) = false := by simpa using g4
                      have G4 := hide g4
                      clear g4
                      by_cases g5 : (decV (fr x)).k = 3
                      · have c5 : ((decV (fr x)).k == 3) = true := by simpa using g5
                        have d5 : ((decV (fr x)).k != 3) = false := by simpa using g5
                        have G5 := hide g5
                        clear g5
                        by_cases g6 : (decV (fr y)).k = 3
                        · have c6 : ((decV (fr y)).k == 3) = true := by simpa using g6
                          have d6 : ((decV (fr y)).k != 3) = false := by simpa using g6
                          have G6 := hide g6
                          clear g6
                          by_cases g7 : (decV (fr x)).h = (decV (fr y)).h
                          · have c7 : ((decV (fr x)).h == (decV (fr y)).h) = true := by simpa using g7
                            have d7 : ((decV (fr x)).h != (decV (fr y)).h) = false := by simpa using g7
                            have G7 := hide g7
                            clear g7
                            by_cases g8 : (decV (fr x)).r = (decV (fr y)).r
                            · have c8 : ((decV (fr x)).r == (decV (fr y)).r) = true := by simpa using g8
                              have d8 : ((decV (fr x)).r != (decV (fr y)).r) = false := by simpa using g8
                              have G8 := hide g8
                              clear g8
                              go_wp2_with (refine wpList_store_rowG rfl 28 _ _ rfl wc.heap.size (decV (fr y)).cells rfl rfl 28 #[.int .i64 0, .int .i64 0, .int .i64 0, .int .i64 0, .int .i64 0, .bool false, .string ⟨#[]⟩] (heap_alloc_new wc _) rfl (by simp [Value.oneCell', MsgV.cells]) Tryd.sizeMsg ?_; intro we hqe hoe; have HOE := hide hoe; obtain ⟨kb0, kb1, kb2, kb3⟩ := msg_cells hqe; obtain ⟨ka0, ka1, ka2, ka3⟩ := msg_cells (msg_stays HQC.out hoe); have hx2 := (((HBwc.out.alloc hswc _).trans (hoe.below hswc)).cell (p := ⟨fb, fo + x, none⟩) (by exact hfb)).trans hcx; have hy2 := (((HBwc.out.alloc hswc _).trans (hoe.below hswc)).cell (p := ⟨fb, fo + y, none⟩) (by exact hfb2)).trans hcy; clear hqe hoe)
                              have HBE : Hid (Below wx.heap.size wx we) := HBxc.out.trans ((((Below.refl wc.heap.size wc).alloc (Nat.le_refl _) _).trans (HOE.out.below (Nat.le_refl _))).mono HBxc.out.size)
                              have HRE : Hid (RingI F rb n sg we) := HR.out.frame (fun k hk => ((HBwc.out.alloc hswc _).trans (HOE.out.below hswc)).block k (HFB.out k hk))
                              refine (signed_any F rb n sg (id : Int) (fr x) we HRE.out).mono ?_
                              rintro e wz ⟨rfl, hwz⟩
                              have hwy := hwz.symm
                              clear hwz
                              subst hwy
                              go_wp2_with fail
                              refine (signed_any F rb n sg (id : Int) (fr y) we HRE.out).mono ?_
                              rintro e wz ⟨rfl, hwz⟩
                              have hwy := hwz.symm
                              clear hwz
                              subst hwy
                              cases o with
                              | true =>
                                have HST : Hid (true = true ↔ BadTo sg n id fr x (y + 1)) := by
                                  unfold Hid
                                  rw [BadTo.step HYX.out]
                                  exact ⟨fun _ => Or.inl (HBD.out.1 rfl), fun _ => rfl⟩
                                go_wp2_with fail
                                go_quiet (fail)
                                all_goals go_wp2
                                go_roundw
                                case rel => exact ⟨y + 1, true, HYX.out, by go_num, rfl, by first | exact HST.out | (have h := HST.out; simpa using h), below_drewN HBE.out _⟩
                                case measure => have := HYX.out; simp [intOf]; omega
                              | false =>
                                have HNB : Hid (¬ BadTo sg n id fr x y) := fun h => Bool.noConfusion (HBD.out.2 h)
                                cases hs1 : signedB sg n (id : Int) (fr x) with
                                | false =>
                                  have HST : Hid (false = true ↔ BadTo sg n id fr x (y + 1)) := by
                                    unfold Hid
                                    rw [BadTo.step HYX.out]
                                    constructor
                                    · intro h; cases h
                                    · rintro (h | h)
                                      · exact absurd h HNB.out
                                      · have := h.2.2.2.2.2.2.2.2.1; rw [hs1] at this; cases this
                                  go_wp2_with fail
                                  go_quiet (fail)
                                  all_goals go_wp2
                                  go_roundw
                                  case rel => exact ⟨y + 1, false, HYX.out, by go_num, rfl, by first | exact HST.out | (have h := HST.out; simpa using h), below_drewN HBE.out _⟩
                                  case measure => have := HYX.out; simp [intOf]; omega
                                | true =>
                                  cases hs2 : signedB sg n (id : Int) (fr y) with
                                  | false =>
                                    have HST : Hid (false = true ↔ BadTo sg n id fr x (y + 1)) := by
                                      unfold Hid
                                      rw [BadTo.step HYX.out]
                                      constructor
                                      · intro h; cases h
                                      · rintro (h | h)
                                        · exact absurd h HNB.out
                                        · have := h.2.2.2.2.2.2.2.2.2.1; rw [hs2] at this; cases this
                                    go_wp2_with fail
                                    go_quiet (fail)
                                    all_goals go_wp2
                                    go_roundw
                                    case rel => exact ⟨y + 1, false, HYX.out, by go_num, rfl, by first | exact HST.out | (have h := HST.out; simpa using h), below_drewN HBE.out _⟩
                                    case measure => have := HYX.out; simp [intOf]; omega
                                  | true =>
                                    by_cases he : fr x = fr y
                                    · have het : ((fr x).toList == (fr y).toList) = true := by rw [he]; simp
                                      have HEQ := hide he
                                      clear he
                                      have HST : Hid (false = true ↔ BadTo sg n id fr x (y + 1)) := by
                                        unfold Hid
                                        rw [BadTo.step HYX.out]
                                        constructor
                                        · intro h; cases h
                                        · rintro (h | h)
                                          · exact absurd h HNB.out
                                          · exact absurd HEQ.out h.2.2.2.2.2.2.2.2.2.2
                                      go_wp2_with fail
                                      go_quiet (fail)
                                      all_goals go_wp2
                                      go_roundw
                                      case rel => exact ⟨y + 1, false, HYX.out, by go_num, rfl, by first | exact HST.out | (have h := HST.out; simpa using h), below_drewN HBE.out _⟩
                                      case measure => have := HYX.out; simp [intOf]; omega
                                    · have het := text_ne he
                                      have HNE := hide he
                                      have HS1 := hide hs1
                                      have HS2 := hide hs2
                                      clear he
                                      have HST : Hid (true = true ↔ BadTo sg n id fr x (y + 1)) := by
                                        unfold Hid
                                        rw [BadTo.step HYX.out]
                                        exact ⟨fun _ => Or.inr ⟨G1.out, G2.out, G3.out, G4.out, G5.out, G6.out, G7.out, G8.out, HS1.out, HS2.out, HNE.out⟩, fun _ => rfl⟩
                                      go_wp2_with fail
                                      go_quiet (fail)
                                      all_goals go_wp2
                                      go_roundw
                                      case rel => exact ⟨y + 1, true, HYX.out, by go_num, rfl, by first | exact HST.out | (have h := HST.out; simpa using h), below_drewN HBE.out _⟩
                                      case measure => have := HYX.out; simp [intOf]; omega
                            · have c8 : ((decV (fr x)).r == (decV (fr y)).r) = false := by simpa using g8
                              have d8 : ((decV (fr x)).r != (decV (fr y)).r) = true := by simpa using g8
                              have HPN : Hid (¬ pairB sg n id (fr x) (fr y)) := fun h => by
                                obtain ⟨q1, q2, q3, q4, q5, q6, q7, q8, q9, q10, q11⟩ := h
                                exact g8 q8
                              have HST : Hid (o = true ↔ BadTo sg n id fr x (y + 1)) := by
                                unfold Hid
                                rw [BadTo.step HYX.out, HBD.out]
                                exact ⟨Or.inl, fun h => h.elim (fun h => h) (fun h => absurd h HPN.out)⟩
                              clear g8
                              go_wp2_with (refine wpList_store_rowG rfl 28 _ _ rfl wc.heap.size (decV (fr y)).cells rfl rfl 28 #[.int .i64 0, .int .i64 0, .int .i64 0, .int .i64 0, .int .i64 0, .bool false, .string ⟨#[]⟩] (heap_alloc_new wc _) rfl (by simp [Value.oneCell', MsgV.cells]) Tryd.sizeMsg ?_; intro we hqe hoe; have HOE := hide hoe; obtain ⟨kb0, kb1, kb2, kb3⟩ := msg_cells hqe; obtain ⟨ka0, ka1, ka2, ka3⟩ := msg_cells (msg_stays HQC.out hoe); have hx2 := (((HBwc.out.alloc hswc _).trans (hoe.below hswc)).cell (p := ⟨fb, fo + x, none⟩) (by exact hfb)).trans hcx; have hy2 := (((HBwc.out.alloc hswc _).trans (hoe.below hswc)).cell (p := ⟨fb, fo + y, none⟩) (by exact hfb2)).trans hcy; clear hqe hoe)
                              have HBE : Hid (Below wx.heap.size wx we) := HBxc.out.trans ((((Below.refl wc.heap.size wc).alloc (Nat.le_refl _) _).trans (HOE.out.below (Nat.le_refl _))).mono HBxc.out.size)
                              go_roundw
                              case rel => exact ⟨y + 1, o, HYX.out, by go_num, rfl, HST.out, HBE.out⟩
                              case measure => have := HYX.out; simp [intOf]; omega
                          · have c7 : ((decV (fr x)).h == (decV (fr y)).h) = false := by simpa using g7
                            have d7 : ((decV (fr x)).h != (decV (fr y)).h) = true := by simpa using g7
                            have HPN : Hid (¬ pairB sg n id (fr x) (fr y)) := fun h => by
                              obtain ⟨q1, q2, q3, q4, q5, q6, q7, q8, q9, q10, q11⟩ := h
                              exact g7 q7
                            have HST : Hid (o = true ↔ BadTo sg n id fr x (y + 1)) := by
                              unfold Hid
                              rw [BadTo.step HYX.out, HBD.out]
                              exact ⟨Or.inl, fun h => h.elim (fun h => h) (fun h => absurd h HPN.out)⟩
                            clear g7
                            go_wp2_with (refine wpList_store_rowG rfl 28 _ _ rfl wc.heap.size (decV (fr y)).cells rfl rfl 28 #[.int .i64 0, .int .i64 0, .int .i64 0, .int .i64 0, .int .i64 0, .bool false, .string ⟨#[]⟩] (heap_alloc_new wc _) rfl (by simp [Value.oneCell', MsgV.cells]) Tryd.sizeMsg ?_; intro we hqe hoe; have HOE := hide hoe; obtain ⟨kb0, kb1, kb2, kb3⟩ := msg_cells hqe; obtain ⟨ka0, ka1, ka2, ka3⟩ := msg_cells (msg_stays HQC.out hoe); have hx2 := (((HBwc.out.alloc hswc _).trans (hoe.below hswc)).cell (p := ⟨fb, fo + x, none⟩) (by exact hfb)).trans hcx; have hy2 := (((HBwc.out.alloc hswc _).trans (hoe.below hswc)).cell (p := ⟨fb, fo + y, none⟩) (by exact hfb2)).trans hcy; clear hqe hoe)
                            have HBE : Hid (Below wx.heap.size wx we) := HBxc.out.trans ((((Below.refl wc.heap.size wc).alloc (Nat.le_refl _) _).trans (HOE.out.below (Nat.le_refl _))).mono HBxc.out.size)
                            go_roundw
                            case rel => exact ⟨y + 1, o, HYX.out, by go_num, rfl, HST.out, HBE.out⟩
                            case measure => have := HYX.out; simp [intOf]; omega
                        · have c6 : ((decV (fr y)).k == 3) = false := by simpa using g6
                          have d6 : ((decV (fr y)).k != 3) = true := by simpa using g6
                          have HPN : Hid (¬ pairB sg n id (fr x) (fr y)) := fun h => by
                            obtain ⟨q1, q2, q3, q4, q5, q6, q7, q8, q9, q10, q11⟩ := h
                            exact g6 q6
                          have HST : Hid (o = true ↔ BadTo sg n id fr x (y + 1)) := by
                            unfold Hid
                            rw [BadTo.step HYX.out, HBD.out]
                            exact ⟨Or.inl, fun h => h.elim (fun h => h) (fun h => absurd h HPN.out)⟩
                          clear g6
                          go_wp2_with (refine wpList_store_rowG rfl 28 _ _ rfl wc.heap.size (decV (fr y)).cells rfl rfl 28 #[.int .i64 0, .int .i64 0, .int .i64 0, .int .i64 0, .int .i64 0, .bool false, .string ⟨#[]⟩] (heap_alloc_new wc _) rfl (by simp [Value.oneCell', MsgV.cells]) Tryd.sizeMsg ?_; intro we hqe hoe; have HOE := hide hoe; obtain ⟨kb0, kb1, kb2, kb3⟩ := msg_cells hqe; obtain ⟨ka0, ka1, ka2, ka3⟩ := msg_cells (msg_stays HQC.out hoe); have hx2 := (((HBwc.out.alloc hswc _).trans (hoe.below hswc)).cell (p := ⟨fb, fo + x, none⟩) (by exact hfb)).trans hcx; have hy2 := (((HBwc.out.alloc hswc _).trans (hoe.below hswc)).cell (p := ⟨fb, fo + y, none⟩) (by exact hfb2)).trans hcy; clear hqe hoe)
                          have HBE : Hid (Below wx.heap.size wx we) := HBxc.out.trans ((((Below.refl wc.heap.size wc).alloc (Nat.le_refl _) _).trans (HOE.out.below (Nat.le_refl _))).mono HBxc.out.size)
                          go_roundw
                          case rel => exact ⟨y + 1, o, HYX.out, by go_num, rfl, HST.out, HBE.out⟩
                          case measure => have := HYX.out; simp [intOf]; omega
                      · have c5 : ((decV (fr x)).k == 3) = false := by simpa using g5
                        have d5 : ((decV (fr x)).k != 3) = true := by simpa using g5
                        have HPN : Hid (¬ pairB sg n id (fr x) (fr y)) := fun h => by
                          obtain ⟨q1, q2, q3, q4, q5, q6, q7, q8, q9, q10, q11⟩ := h
                          exact g5 q5
                        have HST : Hid (o = true ↔ BadTo sg n id fr x (y + 1)) := by
                          unfold Hid
                          rw [BadTo.step HYX.out, HBD.out]
                          exact ⟨Or.inl, fun h => h.elim (fun h => h) (fun h => absurd h HPN.out)⟩
                        clear g5
                        go_wp2_with (refine wpList_store_rowG rfl 28 _ _ rfl wc.heap.size (decV (fr y)).cells rfl rfl 28 #[.int .i64 0, .int .i64 0, .int .i64 0, .int .i64 0, .int .i64 0, .bool false, .string ⟨#[]⟩] (heap_alloc_new wc _) rfl (by simp [Value.oneCell', MsgV.cells]) Tryd.sizeMsg ?_; intro we hqe hoe; have HOE := hide hoe; obtain ⟨kb0, kb1, kb2, kb3⟩ := msg_cells hqe; obtain ⟨ka0, ka1, ka2, ka3⟩ := msg_cells (msg_stays HQC.out hoe); have hx2 := (((HBwc.out.alloc hswc _).trans (hoe.below hswc)).cell (p := ⟨fb, fo + x, none⟩) (by exact hfb)).trans hcx; have hy2 := (((HBwc.out.alloc hswc _).trans (hoe.below hswc)).cell (p := ⟨fb, fo + y, none⟩) (by exact hfb2)).trans hcy; clear hqe hoe)
                        have HBE : Hid (Below wx.heap.size wx we) := HBxc.out.trans ((((Below.refl wc.heap.size wc).alloc (Nat.le_refl _) _).trans (HOE.out.below (Nat.le_refl _))).mono HBxc.out.size)
                        go_roundw
                        case rel => exact ⟨y + 1, o, HYX.out, by go_num, rfl, HST.out, HBE.out⟩
                        case measure => have := HYX.out; simp [intOf]; omega
                    · have c4 : ((decV (fr y)).f == (id : Int)) = false := by simpa using g4
                      have d4 : ((decV (fr y)).f != (id : Int)) = true := by simpa using g4
                      have HPN : Hid (¬ pairB sg n id (fr x) (fr y)) := fun h => by
                        obtain ⟨q1, q2, q3, q4, q5, q6, q7, q8, q9, q10, q11⟩ := h
                        exact g4 q4
                      have HST : Hid (o = true ↔ BadTo sg n id fr x (y + 1)) := by
                        unfold Hid
                        rw [BadTo.step HYX.out, HBD.out]
                        exact ⟨Or.inl, fun h => h.elim (fun h => h) (fun h => absurd h HPN.out)⟩
                      clear g4
                      go_wp2_with (refine wpList_store_rowG rfl 28 _ _ rfl wc.heap.size (decV (fr y)).cells rfl rfl 28 #[.int .i64 0, .int .i64 0, .int .i64 0, .int .i64 0, .int .i64 0, .bool false, .string ⟨#[]⟩] (heap_alloc_new wc _) rfl (by simp [Value.oneCell', MsgV.cells]) Tryd.sizeMsg ?_; intro we hqe hoe; have HOE := hide hoe; obtain ⟨kb0, kb1, kb2, kb3⟩ := msg_cells hqe; obtain ⟨ka0, ka1, ka2, ka3⟩ := msg_cells (msg_stays HQC.out hoe); have hx2 := (((HBwc.out.alloc hswc _).trans (hoe.below hswc)).cell (p := ⟨fb, fo + x, none⟩) (by exact hfb)).trans hcx; have hy2 := (((HBwc.out.alloc hswc _).trans (hoe.below hswc)).cell (p := ⟨fb, fo + y, none⟩) (by exact hfb2)).trans hcy; clear hqe hoe)
                      have HBE : Hid (Below wx.heap.size wx we) := HBxc.out.trans ((((Below.refl wc.heap.size wc).alloc (Nat.le_refl _) _).trans (HOE.out.below (Nat.le_refl _))).mono HBxc.out.size)
                      go_roundw
                      case rel => exact ⟨y + 1, o, HYX.out, by go_num, rfl, HST.out, HBE.out⟩
                      case measure => have := HYX.out; simp [intOf]; omega
                  · have c3 : ((decV (fr x)).f == (id : Int)) = false := by simpa using g3
                    have d3 : ((decV (fr x)).f != (id : Int)) = true := by simpa using g3
                    have HPN : Hid (¬ pairB sg n id (fr x) (fr y)) := fun h => by
                      obtain ⟨q1, q2, q3, q4, q5, q6, q7, q8, q9, q10, q11⟩ := h
                      exact g3 q3
                    have HST : Hid (o = true ↔ BadTo sg n id fr x (y + 1)) := by
                      unfold Hid
                      rw [BadTo.step HYX.out, HBD.out]
                      exact ⟨Or.inl, fun h => h.elim (fun h => h) (fun h => absurd h HPN.out)⟩
                    clear g3
                    go_wp2_with (refine wpList_store_rowG rfl 28 _ _ rfl wc.heap.size (decV (fr y)).cells rfl rfl 28 #[.int .i64 0, .int .i64 0, .int .i64 0, .int .i64 0, .int .i64 0, .bool false, .string ⟨#[]⟩] (heap_alloc_new wc _) rfl (by simp [Value.oneCell', MsgV.cells]) Tryd.sizeMsg ?_; intro we hqe hoe; have HOE := hide hoe; obtain ⟨kb0, kb1, kb2, kb3⟩ := msg_cells hqe; obtain ⟨ka0, ka1, ka2, ka3⟩ := msg_cells (msg_stays HQC.out hoe); have hx2 := (((HBwc.out.alloc hswc _).trans (hoe.below hswc)).cell (p := ⟨fb, fo + x, none⟩) (by exact hfb)).trans hcx; have hy2 := (((HBwc.out.alloc hswc _).trans (hoe.below hswc)).cell (p := ⟨fb, fo + y, none⟩) (by exact hfb2)).trans hcy; clear hqe hoe)
                    have HBE : Hid (Below wx.heap.size wx we) := HBxc.out.trans ((((Below.refl wc.heap.size wc).alloc (Nat.le_refl _) _).trans (HOE.out.below (Nat.le_refl _))).mono HBxc.out.size)
                    go_roundw
                    case rel => exact ⟨y + 1, o, HYX.out, by go_num, rfl, HST.out, HBE.out⟩
                    case measure => have := HYX.out; simp [intOf]; omega

end Go.Proofs.YtcfjhbcpjpgodaaDoor
