/- Proved here (under way): Stray's walk. -/
import Derived.Test.YtcfjhbcpjpgodaaGreatDoorJ44
import Derived.Test.YtcfjhbcpjpgodaaGreatDoorJ45
import Derived.Test.YtcfjhbcpjpgodaaGreatDoorJ47
import Derived.Test.YtcfjhbcpjpgodaaGreatDoorRows
import Derived.Test.YtcfjhbcpjpgodaaGreatDoorJ19
import Derived.SliceStrings
import Derived.ChangeSlices
import Derived.WideShapes
import Derived.ProofKit
import Derived.OpenShut
import Derived.Deep.Slices
import Derived.Test.YtcfjhbcpjpgodaaGreatDoorTakeL
namespace Go.Proofs.YtcfjhbcpjpgodaaGreatDoor
open Go.RowKit

theorem Goes.keep {F R F' R' : Nat → Prop} {w w' : World} (hG : Goes F R w F' R' w') {b : Nat} (hb : b < w.heap.size) (hF : ¬ F b) (hR : ¬ R b) : w'.heap[b]? = w.heap[b]? ∧ b < w'.heap.size ∧ ¬ F' b ∧ ¬ R' b :=
 ⟨hG.same.block b hb (fun e => e.elim hF hR), Nat.lt_of_lt_of_le hb hG.same.size, fun e => (hG.ff b e).elim hF (fun e => absurd hb (Nat.not_lt.2 e)), fun e => (hG.rr b e).elim hR (fun e => absurd hb (Nat.not_lt.2 e))⟩
theorem own_ge {w : World} {base e size n g : Nat} {v : Value} {xs : List Value} (h : w.ownsRow base e size v n xs) (hg : v.ownBlock = some g) : base ≤ g := by
 rcases h.2 with ⟨rfl, _⟩ | ⟨k, cap, cur, rfl, hk, _⟩
 · cases hg
 · cases hg
   exact hk
theorem GlobR.goes {B : Nat} {es : List Addr} {w w' : World} (h : GlobR B es w) (hb : Below B w w') : GlobR B es w' := h.same fun k hk => hb.block k hk
theorem decOk_nil : decOk ⟨#[]⟩ = false := by unfold decOk; rfl
theorem recvV_ret {es : List Addr} {o : Option (Int × Nat)} {w w' : World} {F R : Nat → Prop} {e : Ending} (h : RecvV es o w F R e w') : ∃ v, e = .returned v := by
 unfold RecvV at h
 split at h
 · exact ⟨_, h⟩
 · obtain ⟨g, a, he, _⟩ := h
   exact ⟨_, he⟩
theorem recvV_v {es : List Addr} {o : Option (Int × Nat)} {w w' : World} {F R : Nat → Prop} {v : Value} (h : RecvV es o w F R (.returned v) w') : (o = none ∧ v = .nilIface) ∨ ∃ f k g, o = some (f, k) ∧ v = refV g := by
 unfold RecvV at h
 split at h
 · cases h
   exact Or.inl ⟨rfl, rfl⟩
 · rename_i f k
   obtain ⟨g, a, he, _⟩ := h
   cases he
   exact Or.inr ⟨f, k, g, rfl, rfl⟩

theorem stray_blocks {B : Nat} {es : List Addr} {m : Int} {F R F6 R6 F7 R7 : Nat → Prop} {nb kb rb cb n i : Nat} {s : NodeS} {wr w5 w6 w7 : World} (hN : NodeW B es m F R nb kb rb cb n i s wr) (_hb : Below wr.heap.size wr w5) (h6 : Goes F R w5 F6 R6 w6) (h7 : Goes F6 R6 w6 F7 R7 w7) {g : Nat} (h1 : wr.heap.size ≤ g) (h2 : g < w5.heap.size) : w7.heap[g]? = w5.heap[g]? ∧ g < w7.heap.size := by
 have nF : ¬ F g := fun e => absurd (hN.fl g e).2 (Nat.not_lt.2 h1)
 have nR : ¬ R g := fun e => absurd (hN.rl g e).2 (Nat.not_lt.2 h1)
 have k6 := h6.keep h2 nF nR
 have k7 := h7.keep k6.2.1 k6.2.2.1 k6.2.2.2
 exact ⟨k7.1.trans k6.1, k7.2.1⟩
theorem stray_keep {B : Nat} {es : List Addr} {m : Int} {F R F6 R6 F7 R7 : Nat → Prop} {nb kb rb cb n i : Nat} {s : NodeS} {wr w5 w6 w7 w8 : World} (hN : NodeW B es m F R nb kb rb cb n i s wr) (hb : Below wr.heap.size wr w5) (h6 : Goes F R w5 F6 R6 w6) (h7 : Goes F6 R6 w6 F7 R7 w7) (h8 : Below w7.heap.size w7 w8) {g : Nat} {o : Obj} (hq : w5.heap[g]? = some o) (h1 : wr.heap.size ≤ g) : w8.heap[g]? = some o := by
 have h2 := stray_blocks hN hb h6 h7 h1 (row_lt0 hq)
 rw [h8.block g h2.2, h2.1, hq]
theorem stray_rows {B : Nat} {es : List Addr} {m : Int} {F R F6 R6 F7 R7 : Nat → Prop} {nb kb rb cb n i : Nat} {s : NodeS} {wr w5 w6 w7 w8 : World} (hN : NodeW B es m F R nb kb rb cb n i s wr) (hb : Below wr.heap.size wr w5) (h6 : Goes F R w5 F6 R6 w6) (h7 : Goes F6 R6 w6 F7 R7 w7) (h8 : Below w7.heap.size w7 w8) {base e size l : Nat} {v : Value} {xs : List Value} (h : w5.ownsRow base e size v l xs) (h1 : wr.heap.size ≤ base) : w8.ownsRow base e size v l xs :=
 own_blocks h fun g hg hl => by
  have h2 := stray_blocks hN hb h6 h7 (Nat.le_trans h1 (own_ge h hg)) hl
  rw [h8.block g h2.2, h2.1]

set_option linter.unusedSimpArgs false in
set_option linter.unusedVariables false in
set_option maxRecDepth 100000 in
set_option maxHeartbeats 12800000 in
theorem stray_walk {es : List Addr} {m : Int} (raw : Nat → Int) (p : Option Addr) (q cap : Nat) (size : Int) (acts : Nat → ActV) (ap : Option Addr) (an acap : Nat) (frs : Nat → ByteArray) (fp : Option Addr) (fn fcap : Nat) (w : World)
 (hraw : Lies w w.heap.size p q (fun i => .int .i64 (raw i))) (hq : q ≤ 1048576) (hr : ∀ i, i < q → -9223372036854775808 ≤ raw i ∧ raw i ≤ 9223372036854775807) (hsz : in64 size)
 (hacts : ActsAt w w.heap.size ap an acts) (han : an ≤ 1048576) (hao : ∀ i, i < an → ActOk (acts i)) (hfrs : Lies w w.heap.size fp fn (fun i => .string (frs i))) (hfn : fn ≤ 1048576)
 (hglob : GlobAt w.heap.size es m w) (hglobR : GlobR w.heap.size es w) :
 Calls Tryz.prog 4 #[.slice p q cap, .int .i64 size, .slice ap an acap, .slice fp fn fcap] w fun e w' => e = .returned (.bool true) ∧ Below w.heap.size w w' := by
 obtain ⟨r, hrr⟩ : ∃ z, z = pickN size 6 := ⟨_, rfl⟩
 have hr6 : r < 6 := by rw [hrr]; exact pickN_lt (by omega)
 have HPS : Hid (∀ W, Calls Tryz.prog 26 #[.int .i64 size, .int .i64 6] W fun e w' => e = .returned (.int .i64 (r : Int)) ∧ w' = W) := fun W => by rw [hrr]; exact pick_at size 6 W hsz.1 hsz.2 (by omega) (by omega)
 obtain ⟨n, hn⟩ : ∃ z, z = 2 + r := ⟨_, rfl⟩
 have hwn : IntKind.i64.wrap (2 + (r : Int)) = (n : Int) := by rw [wrap_any _ (by omega) (by omega)]; omega
 have hn8 : n ≤ 8 := by omega
 have hn1 : 1 ≤ n := by omega
 have HPW := hide (powers_any raw p q cap n w hraw (by unfold maxLen; omega) hr (by omega))
 have HAC := hide hacts
 have HAO := hide hao
 have HFR := hide hfrs
 have HGL := hide hglob
 have HGR := hide hglobR
 clear hraw hr hsz hacts hao hfrs hglob hglobR hrr hn
 go_enter Tryz.func4, Tryz.ntmps4
 go_wp2_with fail
 refine (HPS.out _).mono ?_
 rintro e w0 ⟨rfl, hw0⟩
 have hw00 := hw0.symm
 clear hw0
 subst hw00
 go_wp2_with fail
 refine HPW.out.mono ?_
 rintro e w1 ⟨v, g, rfl, hv, hgb, hb1⟩
 obtain ⟨gp, gc, rfl, hgl⟩ := own_numsK hv
 have HB1 := hide hb1
 have HCI := hide (city_any g gp n gc w1 hgl hgb hn8 hn1 ((HGL.out.below (Nat.le_refl _) hb1).up hb1.size) ((HGR.out.below (Nat.le_refl _) hb1).up hb1.size))
 clear hv hgl hgb hb1 HPW
 go_wp2_with fail
 refine HCI.out.mono ?_
 rintro e w2 ⟨cc, rb, st, said, rfl, hE, hb2, hout⟩
 have HE0 := hide hE
 have HB2 := hide hb2
 have HOUT0 : Hid (∀ j, j < n → (st j).out = []) := hout
 clear hE hb2 hout HCI
 go_wp2
 go_loopw [11] (fun iv wr => ∃ (k : Nat) (st1 : Nat → NodeS) (said1 : List ByteArray), k ≤ an ∧ iv = .int .i64 k ∧ CityE w1.heap.size es m rb n cc (n * k) (100 * n + 100 * n * k) st1 said1 wr ∧ Below w1.heap.size w1 wr ∧ ∀ j, j < n → (st1 j).out = []) (fun iv _ => an - (intOf iv).toNat)
 case atStart => exact ⟨0, st, said, Nat.zero_le _, rfl, HE0.out, HB2.out, HOUT0.out⟩
 case round =>
  obtain ⟨k, st1, said1, hk, rfl, hE1, hb3, hout1⟩ := hrel
  have HE1 := hide hE1
  have HB3 := hide hb3
  have HOUT1 : Hid (∀ j, j < n → (st1 j).out = []) := hout1
  clear hE1 hb3 hout1 HE0 HB2 HOUT0
  have HBW : Hid (Below w.heap.size w wr) := HB1.out.trans (HB3.out.mono HB1.out.size)
  by_cases hend : k = an
  · have hge : ¬ (k : Int) < an := by omega
    obtain ⟨hlen, Fs, R, nbs, ks, cbs, gv, kv, nv, sv, hO⟩ := HE1.out
    obtain ⟨gn, gcap, rfl, hmax, hgc, hnp⟩ := hO.nodeAt
    have c3 : wr.cell? ⟨cc, 3, none⟩ = some (.slice (some ⟨gn, 0, none⟩) n gcap) := cell_of_row wr cc 3 _ _ _ hO.blk
    have c0 : wr.cell? ⟨gn, 0, none⟩ = some (.pointer (some ⟨nbs 0, 0, none⟩)) := hnp 0 hO.npos
    have hTB : n * k ≤ 1000000000000 := Nat.le_trans (Nat.mul_le_mul hn8 hk) (by omega)
    have hR0 : ∃ (F R : Nat → Prop) (cb : Nat) (s : NodeS), NodeW w1.heap.size es m F R (nbs 0) (ks 0) rb cb n 0 s wr ∧ NOk 0 (n * k) 0 0 s ∧ GlobR w1.heap.size es wr ∧ s.out = [] ∧ Below w1.heap.size w1 wr := ⟨Fs 0, R, cbs 0, st1 0, hO.city.node 0 hO.npos, hO.city.ok 0 hO.npos, hO.city.globR, HOUT1.out 0 hO.npos, HB3.out⟩
    obtain ⟨nb, hnb⟩ : ∃ z, z = nbs 0 := ⟨_, rfl⟩
    obtain ⟨kb, hkb⟩ : ∃ z, z = ks 0 := ⟨_, rfl⟩
    obtain ⟨T, hT⟩ : ∃ z, z = n * k := ⟨_, rfl⟩
    rw [← hnb, ← hkb, ← hT] at hR0
    rw [← hnb] at c0
    rw [← hT] at hTB
    have HR0 := hide hR0
    have HTB := hide hTB
    have hn0 : (0 : Int) < n := by omega
    clear hO hnp hlen hgc hR0 hTB hT hnb hkb hend HE1 HB3 HOUT1 HAC HAO
    obtain ⟨w8, h8⟩ : ∃ z, z = wr := ⟨_, rfl⟩
    subst h8
    go_wp2
    go_loopw [13] (fun iv wr => ∃ (j : Nat), j ≤ fn ∧ iv = .int .i64 j ∧ ∃ (F R : Nat → Prop) (cb : Nat) (s : NodeS), NodeW w1.heap.size es m F R nb kb rb cb n 0 s wr ∧ NOk 0 T 0 0 s ∧ GlobR w1.heap.size es wr ∧ s.out = [] ∧ Below w1.heap.size w1 wr) (fun iv _ => fn - (intOf iv).toNat)
    case atStart => exact ⟨0, Nat.zero_le _, rfl, HR0.out⟩
    case round =>
     obtain ⟨j, hj, rfl, F, R, cb, s, hN, hok, hgr, hout, hbl⟩ := hrel
     have HN := hide hN
     have HOK := hide hok
     have HGS := hide hgr
     have HOUT : Hid (s.out = []) := hout
     have HBL := hide hbl
     have HBX : Hid (Below w.heap.size w wr) := HB1.out.trans (hbl.mono HB1.out.size)
     clear hN hok hgr hout hbl HR0 c0 c3 HBW
     by_cases hend2 : j = fn
     · have hge2 : ¬ (j : Int) < fn := by omega
       by_cases hz : fn = 0
       · have hzi : (fn : Int) = 0 := by omega
         go_wp2
         go_ret
         exact ⟨rfl, HBX.out⟩
       · have hzi : ¬ (fn : Int) = 0 := by omega
         have HRC := hide (receive_any ⟨#[]⟩ HN.out HGS.out HOK.out HTB.out (by omega))
         have HEX : Hid (s.recvE n ⟨#[]⟩ = some (-1, 1)) := by unfold Hid NodeS.recvE; rw [decOk_nil]; rfl
         clear hend2 hz
         go_wp2_with fail
         refine HRC.out.mono ?_
         rintro e w5 ⟨F', R', hN', hG', hV⟩
         rw [HEX.out] at hV
         obtain ⟨g, a, rfl, _⟩ := hV
         have HB5 : Hid (Below w.heap.size w w5) := HBX.out.trans ((HN.out.goesB hG').mono HB1.out.size)
         clear hN' hG' HRC
         unfold refV
         go_wp2
         go_ret
         exact ⟨rfl, HB5.out⟩
     · have hlj : j < fn := by omega
       have hlji : (j : Int) < fn := by omega
       obtain ⟨b, o, rfl, hbb, hcf⟩ := HFR.out j hlj
       obtain ⟨fr, hfr⟩ : ∃ z, z = frs j := ⟨_, rfl⟩
       have HCF : Hid (w.cell? ⟨b, o + j, none⟩ = some (.string fr)) := by rw [hfr]; exact hcf
       have HBB := hide hbb
       obtain ⟨V, hA, hf⟩ := HN.out.node
       obtain ⟨h7, r7, s7, l7, v7, lv7, vv7, hsa⟩ : ∃ h7 r7 s7 l7 v7 lv7 vv7, stateA s = #[.int .i64 h7, .int .i64 r7, .int .i64 s7, .int .i64 l7, .int .i64 v7, .string lv7, .string vv7] := ⟨_, _, _, _, _, _, _, rfl⟩
       have HSA := hide hsa
       have HST := hide (state_any nb kb cb V s wr hA)
       rw [hsa] at HST
       clear hcf hbb hfr hA hf hsa hend2
       go_wp2_with fail
       refine HST.out.mono ?_
       rintro e w2a ⟨rfl, hb2a⟩
       have HB2a := hide hb2a
       clear hb2a HST
       go_wp2_with (first | (refine wpList_store_new rfl 61 _ _ rfl w2a #[.int .i64 h7, .int .i64 r7, .int .i64 s7, .int .i64 l7, .int .i64 v7, .string lv7, .string vv7] rfl rfl 61 _ rfl (by simp [Value.oneCell']) Tryz.sizeState ?_; intro w3 hq3 hb3 hz3; have HB3a := hide hb3; have HQ3 := hide hq3; clear hq3 hb3 hz3) | fail)
       have HB03 : Hid (Below wr.heap.size wr w3) := HB2a.out.trans (HB3a.out.mono HB2a.out.size)
       obtain ⟨V3, hA3, _⟩ := (HN.out.below HB03.out).node
       refine (nodeRegistry_any hA3 HOK.out.dom).mono ?_
       rintro e w4 ⟨pv, rv, rfl, hp, hr, hpr, hb4⟩
       obtain ⟨pp, pc, rfl, _⟩ := told_powers hp
       obtain ⟨rp, rc, rfl, _⟩ := told_roles hr
       have HP4 := hide hp
       have HR4 := hide hr
       have HB4a := hide hb4
       clear hp hr hpr hb4 hA3
       go_wp2_with (first | (refine wpList_store_new rfl 72 _ _ rfl w4 #[.slice pp 8 pc, .string (nameB (memb s.x 26)), .slice rp (memb s.x 26).length rc] rfl rfl 72 _ rfl (by simp [Value.oneCell']) Tryz.sizeToldN ?_; intro w5 hq5 hb5 hz5; have HB5a := hide hb5; have HQ5 := hide hq5; have HZ5 := hide hz5; clear hq5 hb5 hz5; have cF : w5.cell? ⟨b, o + j, none⟩ = some (.string fr) := (((HBX.out.trans (HB03.out.mono HBX.out.size)).trans (HB4a.out.mono (HBX.out.trans (HB03.out.mono HBX.out.size)).size)).trans (HB5a.out.mono (((HBX.out.trans (HB03.out.mono HBX.out.size)).trans (HB4a.out.mono (HBX.out.trans (HB03.out.mono HBX.out.size)).size))).size)).cell HBB.out |>.trans HCF.out) | fail)
       have HB05 : Hid (Below wr.heap.size wr w5) := (HB03.out.trans (HB4a.out.mono HB03.out.size)).trans (HB5a.out.mono (HB03.out.trans (HB4a.out.mono HB03.out.size)).size)
       have HN5 := hide (HN.out.below HB05.out)
       have HG5 := hide (HGS.out.below HN.out.bl HB05.out)
       clear cF
       refine (receive_any fr HN5.out HG5.out HOK.out HTB.out (by omega)).mono ?_
       rintro e w6 ⟨F6, R6, hN6, hG6, hV⟩
       obtain ⟨v, rfl⟩ := recvV_ret hV
       have HN6 := hide hN6
       have HGo6 := hide hG6
       have HV := hide hV
       have HG6 := hide (HG5.out.goes (HN5.out.goesB hG6))
       obtain ⟨a3, ha3⟩ := HN6.out.glob.sent.at 3 (by omega)
       have cP := HG6.out.cell 3 _ a3 rfl ha3
       have HIS := hide (recv_is hV HN6.out.glob.sent ha3)
       clear hN6 hG6 hV ha3
       go_wp2_with fail
       refine HIS.out.mono ?_
       rintro e w6b ⟨rfl, hw6⟩
       have hw6b := hw6.symm
       clear hw6 HIS cP
       subst hw6b
       have HOK6 := hide (HOK.out.receive (n := n) (fr := fr))
       go_wp2_with fail
       refine (sent_any HN6.out HOK6.out.out).mono ?_
       rintro e w7 ⟨lv, cb7, F7, rfl, hl7, hN7, hG7, _⟩
       obtain ⟨lp, lc, rfl⟩ := own_slice hl7
       obtain ⟨s8, hs8⟩ : ∃ z, z = ({ s.receiveS n 0 fr with out := [] } : NodeS) := ⟨_, rfl⟩
       rw [← hs8] at hN7
       have HX8 : Hid (s8.x = (s.receiveS n 0 fr).x ∧ stateA s8 = stateA (s.receiveS n 0 fr) ∧ NOk 0 T 0 0 s8 ∧ s8.out = []) := by rw [hs8]; exact ⟨rfl, rfl, HOK6.out.sent, rfl⟩
       obtain ⟨L, hL⟩ : ∃ z, z = (s.receiveS n 0 fr).out.length := ⟨_, rfl⟩
       rw [← hL]
       have HL := hide hL
       clear hL hs8
       have HN7 := hide hN7
       have HGo7 := hide hG7
       clear hl7 hN7 hG7
       have HG7 := hide (HG6.out.goes (HN6.out.goesB HGo7.out))
       obtain ⟨V7, hA7, _⟩ := HN7.out.node
       go_wp2_with fail
       refine (nodeRegistry_any hA7 HX8.out.2.2.1.dom).mono ?_
       rintro e wa ⟨pw, rw', rfl, hp, hr, hpr, hba⟩
       obtain ⟨qp, qc, rfl, _⟩ := told_powers hp
       obtain ⟨tp, tc, rfl, _⟩ := told_roles hr
       have HPa := hide hp
       have HRa := hide hr
       have HBa := hide hba
       clear hp hr hpr hba hA7
       go_wp2_with (first | (refine wpList_store_new rfl 72 _ _ rfl wa #[.slice qp 8 qc, .string (nameB (memb s8.x 26)), .slice tp (memb s8.x 26).length tc] rfl rfl 72 _ rfl (by simp [Value.oneCell']) Tryz.sizeToldN ?_; intro wb hqb hbb hzb; have HBb := hide hbb; have HQb := hide hqb; clear hqb hbb hzb; have HQ5b := hide (stray_keep HN.out HB05.out HGo6.out HGo7.out (HBa.out.trans (HBb.out.mono HBa.out.size)) HQ5.out (Nat.le_trans HB03.out.size HB4a.out.size))) | (refine wpList_load_row rfl 72 _ rfl w4.heap.size rfl 72 #[.slice pp 8 pc, .string (nameB (memb s.x 26)), .slice rp (memb s.x 26).length rc] (0, 0) _ HQ5b.out Tryz.underlying72 rfl (by rw [Tryz.sizeToldN]; rfl) ?_) | (refine wpList_load_row rfl 72 _ rfl wa.heap.size rfl 72 #[.slice qp 8 qc, .string (nameB (memb s8.x 26)), .slice tp (memb s8.x 26).length tc] (0, 0) _ HQb.out Tryz.underlying72 rfl (by rw [Tryz.sizeToldN]; rfl) ?_) | fail)
       have HB7b : Hid (Below w7.heap.size w7 wb) := HBa.out.trans (HBb.out.mono HBa.out.size)
       obtain ⟨p1, c1, e1, hp1⟩ := told_powers (stray_rows HN.out HB05.out HGo6.out HGo7.out HB7b.out (own_keep HP4.out HB5a.out) HB03.out.size)
       obtain ⟨p2, c2, e2, hp2⟩ := told_powers (own_keep HPa.out HBb.out)
       obtain ⟨p3, c3, e3, hr1⟩ := told_roles (stray_rows HN.out HB05.out HGo6.out HGo7.out HB7b.out (own_keep HR4.out HB5a.out) HB03.out.size)
       obtain ⟨p4, c4, e4, hr2⟩ := told_roles (own_keep HRa.out HBb.out)
       cases e1
       cases e2
       cases e3
       cases e4
       refine (keepEqual_any ((s.recvE n fr).isSome = true) s.x s8.x (fun i => s.x (8 + (memb s.x 26).getD i 0)) (fun i => s8.x (8 + (memb s8.x 26).getD i 0)) _ _ _ _ _ _ _ _ _ _ _ _ wb (Nat.le_trans (memb_length _ _) (by decide)) hp1 hp2 hr1 hr2 ?_).mono ?_
       · intro hC
         obtain ⟨⟨f, q⟩, hq⟩ := Option.isSome_iff_exists.1 hC
         have hx : s8.x = s.x := HX8.out.1.trans (recv_refused (i := 0) hq).2.1
         rw [hx]
         exact ⟨fun _ _ => rfl, rfl, fun _ _ => rfl, rfl⟩
       rintro e wc ⟨⟨oe, rfl, hoe⟩, hbc⟩
       have HOE := hide hoe
       have HB7c : Hid (Below w7.heap.size w7 wc) := HB7b.out.trans (hbc.mono HB7b.out.size)
       have HQ3c := hide (stray_keep HN.out HB05.out HGo6.out HGo7.out HB7c.out (blk HQ3.out (HB4a.out.trans (HB5a.out.mono HB4a.out.size))) HB2a.out.size)
       have HNc := hide (HN7.out.below HB7c.out)
       have HGc := hide (HG7.out.below HN7.out.bl HB7c.out)
       have HBc : Hid (Below w1.heap.size w1 wc) := (((HBL.out.trans (HB05.out.mono HN.out.bl)).trans (HN5.out.goesB HGo6.out)).trans (HN6.out.goesB HGo7.out)).trans (HB7c.out.mono HN7.out.bl)
       clear hoe hbc hp1 hp2 hr1 hr2 HQ5b HQ5 HQ3 HQb HP4 HR4 HPa HRa HBa HBb HB7b HB4a HB5a HB3a HB2a HZ5 HCF HBB
       haveI := Ext.ne wc
       obtain ⟨Vc, hAc, _⟩ := HNc.out.node
       have HAc := hide hAc
       clear hAc
       rcases recvV_v HV.out with ⟨hre, rfl⟩ | ⟨f, q, g, hre, rfl⟩
       · clear hre HV
         go_wp2_with fail
         refine wp_region_ext (by kernel_rfl) (by kernel_rfl) ?_
         repeat (first | go_big_quiet_skip | (go_big_quiet_want; (go_big_quiet_op; go_big_quiet_on)))
         refine wpQuiet_nil ?_
         rintro _ ⟨u, rfl⟩
         have HRL := hide (show ∃ (F R : Nat → Prop) (cb : Nat) (s : NodeS), NodeW w1.heap.size es m F R nb kb rb cb n 0 s u.W ∧ NOk 0 T 0 0 s ∧ GlobR w1.heap.size es u.W ∧ s.out = [] ∧ Below w1.heap.size w1 u.W from ⟨_, _, _, s8, HNc.out.below u.b, HX8.out.2.2.1, HGc.out.below HNc.out.bl u.b, HX8.out.2.2.2, HBc.out.trans (u.b.mono HNc.out.bl)⟩)
         go_wp2
         go_roundw
         case rel => exact ⟨j + 1, by omega, by go_num, HRL.out⟩
         case measure => simp [intOf]; omega
       · obtain rfl : oe = true := HOE.out (by rw [hre]; rfl)
         have HST8 : Hid (stateA s8 = #[.int .i64 h7, .int .i64 r7, .int .i64 s7, .int .i64 l7, .int .i64 v7, .string lv7, .string vv7]) := HX8.out.2.1.trans ((recv_refused (i := 0) hre).1.trans HSA.out)
         have hLP : L = 0 ∨ (0 < L ∧ pastB (s.recvE n fr) = true) := by
          by_cases h3 : q = 3
          · rcases Nat.eq_zero_or_pos L with h | h
            · exact Or.inl h
            · refine Or.inr ⟨h, ?_⟩
              rw [hre, h3]
              rfl
          · refine Or.inl ?_
            rw [HL.out, (recv_refused (i := 0) hre).2.2 h3, HOUT.out]
            rfl
         unfold refV
         clear hre HV
         rcases hLP with hL0 | ⟨hL0, hpp⟩
         focus
          subst hL0
         rotate_left
         focus
          rw [hpp]
          have hLi : (0 : Int) < (L : Int) := by omega
          clear hpp
         rotate_left
         all_goals
          go_wp2_with fail
          refine wp_region_ext (by kernel_rfl) (by kernel_rfl) ?_
          repeat (first | go_big_quiet_skip | (go_big_quiet_want; (go_big_quiet_op; go_big_quiet_on)))
          go_big_quiet_want
          go_big_quiet_op
          apply Exists.intro
          refine ⟨fun u => ?_, ?_⟩
          · have hc := Calls.ext u (state_any nb kb _ _ s8 u.W (HAc.out.below u.b))
            rw [HST8.out] at hc
            exact hc
          go_big_quiet_on
          go_big_quiet_want
          refine quiet_load_mid (some 79) rfl 61 _ rfl w2a.heap.size 0 rfl [.int .i64 h7, .int .i64 r7, .int .i64 s7, .int .i64 l7, .int .i64 v7, .string lv7, .string vv7] _ (Ext.range (row_range (l := [.int .i64 h7, .int .i64 r7, .int .i64 s7, .int .i64 l7, .int .i64 v7, .string lv7, .string vv7]) HQ3c.out)) Tryz.underlying61 rfl (by rw [Tryz.sizeState]; rfl) ?_
          simp only [AP]
          go_big_quiet_on
          repeat (first | go_big_quiet_skip | (go_big_quiet_want; (go_big_quiet_op; go_big_quiet_on)))
          refine wpQuiet_nil ?_
          rintro _ ⟨u, rfl⟩
          have HRL := hide (show ∃ (F R : Nat → Prop) (cb : Nat) (s : NodeS), NodeW w1.heap.size es m F R nb kb rb cb n 0 s u.W ∧ NOk 0 T 0 0 s ∧ GlobR w1.heap.size es u.W ∧ s.out = [] ∧ Below w1.heap.size w1 u.W from ⟨_, _, _, s8, HNc.out.below u.b, HX8.out.2.2.1, HGc.out.below HNc.out.bl u.b, HX8.out.2.2.2, HBc.out.trans (u.b.mono HNc.out.bl)⟩)
          go_wp2
          go_roundw
          case rel => exact ⟨j + 1, by omega, by go_num, HRL.out⟩
          case measure => simp [intOf]; omega
  · have hlk : k < an := by omega
    have hlki : (k : Int) < an := by omega
    obtain ⟨b, o, rfl, hbb, hrg⟩ := HAC.out.below HBW.out k hlk
    obtain ⟨av, hav⟩ : ∃ z, z = acts k := ⟨_, rfl⟩
    rw [← hav] at hrg
    obtain ⟨ak, at1, af, ac, ⟨mk, mh, mr, mf, mv, mn, ms⟩, rec⟩ := av
    have HRG : Hid (wr.rangeAt b (o + k * 12) [.int .i64 ak, .int .i64 at1, .int .i64 af, .int .i64 ac, .int .i64 mk, .int .i64 mh, .int .i64 mr, .int .i64 mf, .int .i64 mv, .bool mn, .string ms, .string rec]) := hrg
    have hnk : n * k ≤ 8 * 1048576 := Nat.mul_le_mul hn8 (by omega)
    have HHA := hide (happens_any ⟨ak, at1, af, ac, ⟨mk, mh, mr, mf, mv, mn, ms⟩, rec⟩ HE1.out (by rw [hav]; exact HAO.out k hlk) hn8 (by rw [Nat.mul_assoc]; omega) (by omega))
    have HHB : Hid (Calls Tryz.prog 28 #[.pointer (some ⟨cc, 0, none⟩), .agg #[.int .i64 ak, .int .i64 at1, .int .i64 af, .int .i64 ac, .int .i64 mk, .int .i64 mh, .int .i64 mr, .int .i64 mf, .int .i64 mv, .bool mn, .string ms, .string rec]] wr fun e w' => e = .returned (.tuple #[]) ∧ ∃ st' said', Moves n (st1, said1) (st', said') ∧ CityE w1.heap.size es m rb n cc (n * k + n) (100 * n + 100 * n * k + 100 * n) st' said' w' ∧ Below w1.heap.size wr w' ∧ ∀ j, j < n → (st' j).out = []) := HHA.out
    clear hrg hav hbb hend HHA
    go_wp2_with (first | (refine wpList_load_mid rfl 81 _ rfl b (o + k * 12) rfl [.int .i64 ak, .int .i64 at1, .int .i64 af, .int .i64 ac, .int .i64 mk, .int .i64 mh, .int .i64 mr, .int .i64 mf, .int .i64 mv, .bool mn, .string ms, .string rec] _ HRG.out Tryz.underlying81 rfl Tryz.sizeAct ?_) | fail)
    refine HHB.out.mono ?_
    rintro e w4 ⟨rfl, st2, said2, _, hE2, hb4, hout2⟩
    have HE2 := hide hE2
    have HB4 : Hid (Below w1.heap.size w1 w4) := HB3.out.trans hb4
    have HOUT2 : Hid (∀ j, j < n → (st2 j).out = []) := hout2
    clear hE2 hb4 hout2 HHB
    go_wp2
    go_roundw
    case rel => exact ⟨k + 1, st2, said2, by omega, by go_num, HE2.out.mono (by rw [Nat.mul_succ]; exact Nat.le_refl _) (by rw [Nat.mul_succ]; omega), HB4.out, HOUT2.out⟩
    case measure => simp [intOf]; omega

end Go.Proofs.YtcfjhbcpjpgodaaGreatDoor
namespace Go.Proofs.YtcfjhbcpjpgodaaGreatDoor
open Go.ChangeShapes Go.WideShapes Go.ChangeAt Go.RowKit

theorem bulk_pos {H : Type} (d : DataW H) : 1 ≤ Rows.uptoBulk d := by
 cases d with
 | lit l => cases l <;> simp [Rows.uptoBulk]
 | nil => simp [Rows.uptoBulk]
 | ptr d => simp [Rows.uptoBulk]
 | slice elems spare => simp [Rows.uptoBulk]
 | agg parts => simp [Rows.uptoBulk]
 | iface t d => simp [Rows.uptoBulk]
 | map entries => simp [Rows.uptoBulk]
 | held h => simp [Rows.uptoBulk]

theorem bulk_len {H : Type} : ∀ l : List (DataW H), l.length ≤ Rows.uptoBulkAll l
 | [] => Nat.zero_le _
 | x :: l => by
  have h1 := bulk_pos x
  have h2 := bulk_len l
  simp only [Rows.uptoBulkAll, List.length_cons]
  omega

theorem bulk_mem {H : Type} {d : DataW H} : ∀ {l : List (DataW H)}, d ∈ l → Rows.uptoBulk d ≤ Rows.uptoBulkAll l
 | x :: l, h => by
  simp only [Rows.uptoBulkAll]
  rcases List.mem_cons.1 h with rfl | h
  · omega
  · have := bulk_mem h
    omega

set_option maxRecDepth 100000 in
theorem ok_spot {W : World} {base : Nat} {t e : TypeId} {a : Addr} {n cap : Nat} (hu : Tryz.prog.underlying t = some (.slice e)) (h : Value.okWide Tryz.prog W .any base t (.slice (some a) n cap)) : a.spot = none := by
 simp only [Value.okWide, hu, Cell.okWide, Cell.ok] at h
 exact h.2.2.2.1

theorem Tryz.cellsI : Tryz.prog.cellsOf 3 = 1 := by kernel_rfl

set_option maxRecDepth 100000 in
theorem open_nums {H : Type} {enc : TypeId × Value → H} {W : World} {base : Nat} {v : Value} {d : DataW H} {p : List MemPlace} (hv : Value.okWide Tryz.prog W .any base 22 v) (h : DataW.Trod enc Tryz.prog W 0 (fun _ => true) true 22 v d p) :
 ∃ (pa : Option Addr) (n cap : Nat) (g : Nat → Int), v = .slice pa n cap ∧ NilOr pa n cap ∧ Lies W W.heap.size pa n (fun i => .int .i64 (g i)) ∧ n ≤ Rows.uptoBulk d ∧ ∀ x ∈ p, x.block < W.heap.size := by
 obtain ⟨pa, n, cap, rfl⟩ := okWide_slice Tryz.underlying22 hv
 obtain ⟨fuel, hf⟩ := h
 have hf' : DataW.trod enc Tryz.prog W 0 (fun _ => true) true fuel 22 [.slice pa n cap] = some (d, p) := hf
 rcases open_ints Tryz.underlying22 Tryz.underlying3 Tryz.cellsI hf' with ⟨hcs, hx⟩ | ⟨a, len, cap', zs, hcs, _, hl, hm, hz, hx, hcell, _⟩
 · simp at hcs hx
   obtain ⟨rfl, rfl, rfl⟩ := hcs
   obtain ⟨rfl, rfl⟩ := hx
   exact ⟨none, 0, 0, fun _ => 0, rfl, Or.inl ⟨rfl, rfl, rfl⟩, fun i hi => by omega, Nat.zero_le _, fun x hx => by cases hx⟩
 · simp at hcs hx
   obtain ⟨rfl, rfl, rfl⟩ := hcs
   obtain ⟨rfl, rfl⟩ := hx
   simp only [if_true] at hz
   obtain ⟨b, o, sp⟩ := a
   obtain rfl : sp = none := ok_spot Tryz.underlying22 hv
   have hc2 : ∀ i, i < zs.length → W.cell? ⟨b, o + i, none⟩ = some (.int .i64 (zs.getD i 0)) := fun i hi => by rw [← addr_add]; exact hcell i hi
   refine ⟨_, n, cap, fun i => zs.getD i 0, rfl, Or.inr ⟨b, o, rfl⟩, fun i hi => ⟨b, o, rfl, World.block_lt_of_cell? _ _ (hc2 i (by omega)), hc2 i (by omega)⟩, ?_, fun x hx => ?_⟩
   · have h1 := bulk_len (H := H) (lits .i64 (zs.take n))
     have h2 : (lits (H := H) .i64 (zs.take n)).length = n := by simp [lits]; omega
     simp only [Rows.uptoBulk]
     omega
   · simp only [MemPlace.row, List.mem_map, List.mem_range] at hx
     obtain ⟨i, hi, rfl⟩ := hx
     exact World.block_lt_of_cell? _ _ (hc2 i hi)

set_option maxRecDepth 100000 in
theorem open_texts {H : Type} {enc : TypeId × Value → H} {W : World} {base : Nat} {v : Value} {d : DataW H} {p : List MemPlace} (hv : Value.okWide Tryz.prog W .any base 30 v) (h : DataW.Trod enc Tryz.prog W 0 (fun _ => true) true 30 v d p) :
 ∃ (pa : Option Addr) (l : List ByteArray) (cap : Nat), v = .slice pa l.length cap ∧ NilOr pa l.length cap ∧ Lies W W.heap.size pa l.length (fun i => .string (l.getD i ByteArray.empty)) ∧ l.length ≤ Rows.uptoBulk d ∧ (∀ i, i < l.length → (l.getD i ByteArray.empty).size ≤ Rows.uptoBulk d) ∧ ∀ x ∈ p, x.block < W.heap.size := by
 obtain ⟨pa, n, cap, rfl⟩ := okWide_slice Tryz.underlying30 hv
 obtain ⟨fuel, hf⟩ := h
 have hf' : DataW.trod enc Tryz.prog W 0 (fun _ => true) true fuel 30 [.slice pa n cap] = some (d, p) := hf
 rcases open_strings Tryz.underlying30 Tryz.underlying9 Tryz.cellsS hf' with ⟨hcs, hx⟩ | ⟨a, len, cap', ss, hcs, _, hl, hm, hz, hx, hcell, _⟩
 · simp at hcs hx
   obtain ⟨rfl, rfl, rfl⟩ := hcs
   obtain ⟨rfl, rfl⟩ := hx
   exact ⟨none, [], 0, rfl, Or.inl ⟨rfl, rfl, rfl⟩, fun i hi => (by cases hi), Nat.zero_le _, fun i hi => (by cases hi), fun x hx => (by cases hx)⟩
 · simp at hcs hx
   obtain ⟨rfl, rfl, rfl⟩ := hcs
   obtain ⟨rfl, rfl⟩ := hx
   simp only [if_true] at hz
   obtain ⟨b, o, sp⟩ := a
   obtain rfl : sp = none := ok_spot Tryz.underlying30 hv
   have hc2 : ∀ i, i < ss.length → W.cell? ⟨b, o + i, none⟩ = some (.string (ss.getD i ByteArray.empty)) := fun i hi => by rw [← addr_add]; exact hcell i hi
   have hln : (ss.take n).length = n := by simp; omega
   have hget : ∀ i, i < n → (ss.take n).getD i ByteArray.empty = ss.getD i ByteArray.empty := fun i hi => by
    rw [List.getD_eq_getElem?_getD, List.getD_eq_getElem?_getD, List.getElem?_take, if_pos hi]
   refine ⟨_, ss.take n, cap, by rw [hln], Or.inr ⟨b, o, rfl⟩, fun i hi => ⟨b, o, rfl, World.block_lt_of_cell? _ _ (hc2 i (by omega)), ?_⟩, ?_, fun i hi => ?_, fun x hx => ?_⟩
   · rw [hc2 i (by omega)]
     show _ = some (Value.string ((ss.take n).getD i ByteArray.empty))
     rw [hget i (by omega)]
   · have h1 := bulk_len (H := H) (strs (ss.take n))
     have h2 : (strs (H := H) (ss.take n)).length = n := by simp [strs]; omega
     simp only [Rows.uptoBulk]
     omega
   · have hm2 : DataW.lit (H := H) (.string ((ss.take n).getD i ByteArray.empty).data.toList) ∈ strs (H := H) (ss.take n) := by
      unfold strs
      rw [List.mem_map]
      refine ⟨(ss.take n).getD i ByteArray.empty, ?_, rfl⟩
      rw [List.getD_eq_getElem?_getD, List.getElem?_eq_getElem hi]
      exact List.getElem_mem hi
     have h1 := bulk_mem hm2
     have h2 : ((ss.take n).getD i ByteArray.empty).data.toList.length = ((ss.take n).getD i ByteArray.empty).size := by simp
     simp only [Rows.uptoBulk] at h1 ⊢
     omega
   · simp only [MemPlace.row, List.mem_map, List.mem_range] at hx
     obtain ⟨i, hi, rfl⟩ := hx
     exact World.block_lt_of_cell? _ _ (hc2 i hi)

end Go.Proofs.YtcfjhbcpjpgodaaGreatDoor
namespace Go.Proofs.YtcfjhbcpjpgodaaGreatDoor
open Go.ChangeShapes Go.WideShapes Go.ChangeAt Go.RowKit

theorem Tryz.cellsActA : Tryz.prog.cellsOf 81 = 12 := by kernel_rfl
theorem Tryz.cellsMsgA : Tryz.prog.cellsOf 57 = 7 := by kernel_rfl
theorem Tryz.cellsIntA : Tryz.prog.cellsOf 3 = 1 := by kernel_rfl
theorem Tryz.cellsBoolA : Tryz.prog.cellsOf 4 = 1 := by kernel_rfl
theorem Tryz.cellsStrA : Tryz.prog.cellsOf 9 = 1 := by kernel_rfl

set_option maxRecDepth 100000 in
theorem actMsg_of_cells {H : Type} {enc : TypeId × Value → H} {W : World} {base fuel : Nat} {sp : Nat → Bool} {held : Bool} {cs : List Value} {d : DataW H} {p : List MemPlace} (hl : cs.length = 7) (h : DataW.trod enc Tryz.prog W base sp held fuel 57 cs = some (d, p)) :
 p = [] ∧ ∃ m : MsgV, cs = m.cells.toList ∧ in64 m.f ∧ m.s.size ≤ Rows.uptoBulk d := by
 obtain ⟨xs, n, _, hx, _, hlen, hf⟩ := DataW.trod_struct Tryz.underlying57 h
 match cs, hl, xs, hlen with
 | [c0, c1, c2, c3, c4, c5, c6], _, [y0, y1, y2, y3, y4, y5, y6], _ =>
  have t0 := hf 0 _ rfl
  have t1 := hf 1 _ rfl
  have t2 := hf 2 _ rfl
  have t3 := hf 3 _ rfl
  have t4 := hf 4 _ rfl
  have t5 := hf 5 _ rfl
  have t6 := hf 6 _ rfl
  simp [Tryz.cellsIntA, Tryz.cellsBoolA, Tryz.cellsStrA] at t0 t1 t2 t3 t4 t5 t6
  obtain ⟨K, e0, rfl, _⟩ := DataW.trod_int Tryz.underlying3 t0
  obtain ⟨H', e1, rfl, _⟩ := DataW.trod_int Tryz.underlying3 t1
  obtain ⟨R, e2, rfl, _⟩ := DataW.trod_int Tryz.underlying3 t2
  obtain ⟨F, e3, rfl, wF⟩ := DataW.trod_int Tryz.underlying3 t3
  obtain ⟨V, e4, rfl, _⟩ := DataW.trod_int Tryz.underlying3 t4
  obtain ⟨nl, e5, rfl⟩ := DataW.trod_bool Tryz.underlying4 t5
  obtain ⟨s, e6, rfl, hs⟩ := DataW.trod_string Tryz.underlying9 t6
  simp only [List.cons.injEq, and_true] at e0 e1 e2 e3 e4 e5 e6
  subst e0 e1 e2 e3 e4 e5 e6
  have hx1 := congrArg (·.1) hx
  have hx2 := congrArg (·.2) hx
  simp only at hx1 hx2
  refine ⟨by simpa using hx2, ⟨K, H', R, F, V, nl, s⟩, rfl, ⟨(bounds_i64 wF).1, (bounds_i64 wF).2⟩, ?_⟩
  rw [hx1]
  simp [Rows.uptoBulk, Rows.uptoBulkAll]
  first | omega | done

set_option maxRecDepth 100000 in
theorem act_of_cells {H : Type} {enc : TypeId × Value → H} {W : World} {base fuel : Nat} {sp : Nat → Bool} {held : Bool} {cs : List Value} {d : DataW H} {p : List MemPlace} (hl : cs.length = 12) (hd : Rows.uptoBulk d ≤ 1048576) (h : DataW.trod enc Tryz.prog W base sp held fuel 81 cs = some (d, p)) :
 p = [] ∧ ∃ a : ActV, cs = a.cells.toList ∧ ActOk a := by
 obtain ⟨xs, n, _, hx, _, hlen, hf⟩ := DataW.trod_struct Tryz.underlying81 h
 match cs, hl, xs, hlen with
 | [c0, c1, c2, c3, c4, c5, c6, c7, c8, c9, c10, c11], _, [y0, y1, y2, y3, y4, y5], _ =>
  have t0 := hf 0 _ rfl
  have t1 := hf 1 _ rfl
  have t2 := hf 2 _ rfl
  have t3 := hf 3 _ rfl
  have t4 := hf 4 _ rfl
  have t5 := hf 5 _ rfl
  simp [Tryz.cellsIntA, Tryz.cellsStrA, Tryz.cellsMsgA] at t0 t1 t2 t3 t4 t5
  obtain ⟨K, e0, rfl, w0⟩ := DataW.trod_int Tryz.underlying3 t0
  obtain ⟨T, e1, rfl, w1⟩ := DataW.trod_int Tryz.underlying3 t1
  obtain ⟨F, e2, rfl, w2⟩ := DataW.trod_int Tryz.underlying3 t2
  obtain ⟨C, e3, rfl, w3⟩ := DataW.trod_int Tryz.underlying3 t3
  obtain ⟨y4d, y4p⟩ := y4
  obtain ⟨hp4, m, e4, hmf, hms⟩ := actMsg_of_cells rfl t4
  obtain ⟨s, e5, rfl, hs⟩ := DataW.trod_string Tryz.underlying9 t5
  obtain ⟨mk, mh, mr, mf, mv, mn, ms⟩ := m
  simp only [MsgV.cells, List.cons.injEq, and_true] at e0 e1 e2 e3 e4 e5
  obtain ⟨rfl, rfl, rfl, rfl, rfl, rfl, rfl⟩ := e4
  subst e0 e1 e2 e3 e5
  have hx1 := congrArg (·.1) hx
  have hx2 := congrArg (·.2) hx
  simp only at hx1 hx2
  rw [hx1] at hd
  simp [Rows.uptoBulk, Rows.uptoBulkAll] at hd
  have hms' : ms.size ≤ Rows.uptoBulk y4d := hms
  refine ⟨by rw [hx2]; simpa using hp4, ⟨K, T, F, C, ⟨mk, mh, mr, mf, mv, mn, ms⟩, s⟩, rfl, ⟨⟨(bounds_i64 w0).1, (bounds_i64 w0).2⟩, ⟨(bounds_i64 w1).1, (bounds_i64 w1).2⟩, ⟨(bounds_i64 w2).1, (bounds_i64 w2).2⟩, ⟨(bounds_i64 w3).1, (bounds_i64 w3).2⟩, hmf, ?_⟩⟩
  show ms.size ≤ _
  omega

def act0 : ActV := ⟨0, 0, 0, 0, ⟨0, 0, 0, 0, 0, false, ByteArray.empty⟩, ByteArray.empty⟩

set_option maxRecDepth 100000 in
theorem open_acts {H : Type} {enc : TypeId × Value → H} {W : World} {base : Nat} {v : Value} {d : DataW H} {p : List MemPlace} (hd : Rows.uptoBulk d ≤ 1048576) (hv : Value.okWide Tryz.prog W .any base 75 v) (h : DataW.Trod enc Tryz.prog W 0 (fun _ => true) true 75 v d p) :
 ∃ (pa : Option Addr) (n cap : Nat) (a : Nat → ActV), v = .slice pa n cap ∧ ActsAt W W.heap.size pa n a ∧ (∀ i, i < n → ActOk (a i)) ∧ n ≤ Rows.uptoBulk d ∧ ∀ x ∈ p, x.block < W.heap.size := by
 obtain ⟨pa, n, cap, rfl⟩ := okWide_slice Tryz.underlying75 hv
 obtain ⟨fuel, hf⟩ := h
 have hf' : DataW.trod enc Tryz.prog W 0 (fun _ => true) true fuel 75 [.slice pa n cap] = some (d, p) := hf
 rcases Deep.open_slice Tryz.underlying75 hf' with ⟨hcs, hx⟩ | ⟨a, len, cap', m, k, D, Pl, hcs, _, hl, hm, hmm, hx, hel⟩
 · simp at hcs hx
   obtain ⟨rfl, rfl, rfl⟩ := hcs
   obtain ⟨rfl, rfl⟩ := hx
   exact ⟨none, 0, 0, fun _ => act0, rfl, fun i hi => by omega, fun i hi => by omega, Nat.zero_le _, fun x hx => by cases hx⟩
 · simp only [List.cons.injEq, Value.slice.injEq, and_true] at hcs
   obtain ⟨rfl, rfl, rfl⟩ := hcs
   simp only [Prod.mk.injEq] at hx
   obtain ⟨rfl, rfl⟩ := hx
   simp only [if_true] at hmm
   obtain ⟨b, o, sp⟩ := a
   obtain rfl : sp = none := ok_spot Tryz.underlying75 hv
   rw [Tryz.cellsActA] at hel ⊢
   have hDb : ∀ i, i < m → Rows.uptoBulk (D i) ≤ 1048576 := fun i hi => by
    simp only [Rows.uptoBulk] at hd
    by_cases hin : i < n
    · have := bulk_mem (H := H) (d := D i) (l := (List.range n).map D) (List.mem_map.2 ⟨i, by simpa using hin, rfl⟩)
      omega
    · have := bulk_mem (H := H) (d := D i) (l := (List.range (m - n)).map fun j => D (n + j)) (List.mem_map.2 ⟨i - n, by simp; omega, by rw [show n + (i - n) = i by omega]⟩)
      omega
   have each : ∀ i, i < m → ∃ q : ActV, Pl i = [] ∧ W.rangeAt b (o + i * 12) q.cells.toList ∧ ActOk q := fun i hi => by
    obtain ⟨cs', h1, h2⟩ := hel i hi
    obtain ⟨_, hlen, hcell⟩ := World.cells?_some h1
    obtain ⟨hp, q, rfl, hq⟩ := act_of_cells hlen (hDb i hi) h2
    refine ⟨q, hp, fun j u hj => ?_, hq⟩
    have hj9 : j < 12 := by have := (List.getElem?_eq_some_iff.1 hj).1; omega
    have e := hcell j (by omega)
    rw [addr_add, addr_add] at e
    rw [e, ← hj]
   haveI : Inhabited ActV := ⟨act0⟩
   obtain ⟨ts, hts⟩ := Deep.choose_lt each
   refine ⟨some ⟨b, o, none⟩, n, cap, ts, rfl, fun i hi => ⟨b, o, rfl, ?_, (hts i (by omega)).2.1⟩, fun i hi => (hts i (by omega)).2.2, ?_, fun x hx => ?_⟩
   · have h2 := (hts i (by omega)).2.1 0 _ rfl
     exact World.block_lt_of_cell? _ _ h2
   · have h1 := bulk_len (H := H) ((List.range n).map D)
     simp only [Rows.uptoBulk]
     simp at h1
     omega
   · rcases List.mem_append.1 hx with hx | hx
     · simp only [MemPlace.row, List.mem_map, List.mem_range] at hx
       obtain ⟨i, hi, rfl⟩ := hx
       have h2 := (hts (i / 12) (by omega)).2.1 0 _ rfl
       exact World.block_lt_of_cell? _ _ h2
     · rw [List.mem_flatMap] at hx
       obtain ⟨i, hi, hx⟩ := hx
       rw [(hts i (by simpa using hi)).1] at hx
       cases hx

end Go.Proofs.YtcfjhbcpjpgodaaGreatDoor
