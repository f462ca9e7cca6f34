/- Proved here: what an act does to a city: happens_all. -/
import Derived.Test.YtcfjhbcpjpgodaaGreatDoorJ35
import Derived.Test.YtcfjhbcpjpgodaaGreatDoorJ38
import Derived.Test.YtcfjhbcpjpgodaaGreatDoorJ39
import Derived.Test.YtcfjhbcpjpgodaaGreatDoorJ40
import Derived.Test.YtcfjhbcpjpgodaaGreatDoorJ46
import Derived.Deep.DeepCutAuto
import Derived.Test.YtcfjhbcpjpgodaaGreatDoorJ42
import Derived.Test.YtcfjhbcpjpgodaaGreatDoorHapRecv
import Derived.Test.YtcfjhbcpjpgodaaGreatDoorJ43
import Derived.Test.YtcfjhbcpjpgodaaGreatDoorTakeL
namespace Go.Proofs.YtcfjhbcpjpgodaaGreatDoor
open Go.RowKit

set_option linter.unusedSimpArgs false in
set_option linter.unusedVariables false in
set_option maxRecDepth 100000 in
set_option maxHeartbeats 25600000 in
theorem happens_all {B : Nat} {es : List Addr} {m : Int} {rb n cc T M : Nat} {st : Nat → NodeS} {said : List ByteArray} (a : ActV) {w : World} (h : CityE B es m rb n cc T M st said w) (ha : ActOk a) (hk10 : pickN a.k 11 = 10) (hn : n ≤ 8) (hM : M + 100 * n ≤ 4000000000000) (hT : T + n ≤ 1000000000000) :
 Calls Tryz.prog 28 #[.pointer (some ⟨cc, 0, none⟩), .agg a.cells] w fun e w' => e = .returned (.tuple #[]) ∧ ∃ st' said', Moves n (st, said) (st', said') ∧ CityE B es m rb n cc (T + n) (M + 100 * n) st' said' w' ∧ Below B w w' ∧ ∀ j, j < n → (st' j).out = [] := by
 obtain ⟨ak, at1, af, ac, ⟨mk, mh, mr, mf, mv, mn, ms⟩, rec⟩ := a
 obtain ⟨hlen, Fs, R, nbs, ks, cbs, gv, kv, nv, sv, hO⟩ := h
 obtain ⟨g, cap, rfl, hmax, hgc, hnp⟩ := hO.nodeAt
 have hnpos := hO.npos
 obtain ⟨tj, htj⟩ : ∃ z, z = pickN at1 n := ⟨_, rfl⟩
 have htn : tj < n := by rw [htj]; exact pickN_lt hO.npos
 have htni : (tj : Int) < n := by omega
 show Calls Tryz.prog 28 #[.pointer (some ⟨cc, 0, none⟩), .agg #[.int .i64 ak, .int .i64 at1, .int .i64 af, .int .i64 ac, .int .i64 mk, .int .i64 mh, .int .i64 mr, .int .i64 mf, .int .i64 mv, .bool mn, .string ms, .string rec]] w _
 obtain ⟨w1, hw1⟩ : ∃ z, z = w.alloc (.cells #[.int .i64 ak, .int .i64 at1, .int .i64 af, .int .i64 ac, .int .i64 mk, .int .i64 mh, .int .i64 mr, .int .i64 mf, .int .i64 mv, .bool mn, .string ms, .string rec] 81) := ⟨_, rfl⟩
 have hb1 : Below w.heap.size w w1 := by rw [hw1]; exact (Below.refl _ w).alloc (Nat.le_refl _) _
 have hq1 : w1.heap[w.heap.size]? = some (.cells #[.int .i64 ak, .int .i64 at1, .int .i64 af, .int .i64 ac, .int .i64 mk, .int .i64 mh, .int .i64 mr, .int .i64 mf, .int .i64 mv, .bool mn, .string ms, .string rec] 81 (0, 0)) := by rw [hw1]; exact heap_alloc_new w _
 have C3 : Hid (w1.cell? ⟨cc, 3, none⟩ = some (.slice (some ⟨g, 0, none⟩) n cap)) := cell_of_row w1 cc 3 _ _ _ (blk hO.blk hb1)
 have CTJ : Hid (w1.cell? ⟨g, tj, none⟩ = some (.pointer (some ⟨nbs tj, 0, none⟩))) := (hO.below hb1).nodeCell tj htn
 have CA1 : Hid (w1.cell? ⟨w.heap.size, 1, none⟩ = some (.int .i64 at1)) := cell_of_row w1 w.heap.size 1 _ _ _ hq1
 have CA0 : Hid (w1.cell? ⟨w.heap.size, 0, none⟩ = some (.int .i64 ak)) := cell_of_row w1 w.heap.size 0 _ _ _ hq1
 have HPT : Hid (∀ W, Calls Tryz.prog 26 #[.int .i64 at1, .int .i64 (n : Int)] W fun e w' => e = .returned (.int .i64 (tj : Int)) ∧ w' = W) := fun W => by rw [htj]; exact pick_at at1 n W ha.t.1 ha.t.2 hnpos (by omega)
 have HPK : Hid (∀ W, Calls Tryz.prog 26 #[.int .i64 ak, .int .i64 11] W fun e w' => e = .returned (.int .i64 (pickN ak 11 : Int)) ∧ w' = W) := fun W => pick_at ak 11 W ha.k.1 ha.k.2 (by omega) (by omega)
 have HG1 : Hid (CityG B es m nbs ks gv kv (.slice (some ⟨g, 0, none⟩) n cap) rb n cc T M w.heap.size #[.int .i64 ak, .int .i64 at1, .int .i64 af, .int .i64 ac, .int .i64 mk, .int .i64 mh, .int .i64 mr, .int .i64 mf, .int .i64 mv, .bool mn, .string ms, .string rec] 81 st said w1) := CityG.of hO hlen hb1 (Nat.le_refl _) hq1
 have HBL : Hid (B ≤ w.heap.size) := hO.bl
 have HB1 := hide hb1
 have HW1 := hide hw1
 have HAO := hide ha
 obtain ⟨ab, hab⟩ : ∃ z, z = w.heap.size := ⟨_, rfl⟩
 have HGC := hide hgc
 clear hO hnp htj hb1 hq1 hw1 ha hlen
 go_enter Tryz.func28, Tryz.ntmps28
 go_upto_region 1 with fail
 rw [← HW1.out]
 refine wp_region_held_drew (S := fun X => Below w1.heap.size w1 X) (by kernel_rfl) ((Below.refl _ w1).drew) (fun hHeld => ?_)
 refine takeN [(0, some 14, pA cc 0), (1, some 15, pA cc 0), (2, some 16, pA cc 3), (3, some 17, .slice (some ⟨g, 0, none⟩) n cap), (4, some 18, pA w.heap.size 1), (5, some 19, .int .i64 at1), (6, some 20, pA cc 0), (7, some 21, pA cc 0), (8, some 22, pA cc 3), (9, some 23, .slice (some ⟨g, 0, none⟩) n cap), (10, some 24, .int .i64 (n : Int))] _ _ hHeld (by repeat (first | exact True.intro | (refine tkc rfl rfl (Or.inl ⟨by rfl, fun x h => by have f0 : x.cell? ⟨cc, 3, none⟩ = some (.slice (some ⟨g, 0, none⟩) n cap) := Ext.cell C3.out (Ext.of h); have f1 : x.cell? ⟨w.heap.size, 1, none⟩ = some (.int .i64 at1) := Ext.cell CA1.out (Ext.of h); go_simp⟩) ?_; simp only [AP]))) ?_
 simp only [takesA, AP, pA]
 refine rdy1 11 (fun K hK => ?_)
 go_simp
 refine (HPT.out _).mono ?_
 rintro en X2 ⟨rfl, rfl⟩
 refine hK.out _ _ (hHeld) (fun hHeld => ?_)
 clear hK K
 try simp only [AP, AQ]
 refine takeN [(12, some 26, pA g tj), (13, some 27, pA (nbs tj) 0), (14, some 4, pA (nbs tj) 0)] _ _ hHeld (by repeat (first | exact True.intro | (refine tkc rfl rfl (Or.inl ⟨by rfl, fun x h => by have f0 : x.cell? ⟨g, tj, none⟩ = some (.pointer (some ⟨nbs tj, 0, none⟩)) := Ext.cell CTJ.out (Ext.of h); go_simp⟩) ?_; simp only [AP]))) ?_
 simp only [takesA, AP, pA]
 refine wpAnyH_done (by kernel_rfl) ?_ _
 obtain ⟨w2, hw2⟩ : ∃ z, z = w1.drew := ⟨_, rfl⟩
 have HB2 : Hid (Below w1.heap.size w1 w2) := by rw [hw2]; exact (Below.refl _ w1).drew
 rw [← hw2]
 have HG2 := hide (HG1.out.below HB2.out)
 have HBW2 : Hid (Below B w w2) := (HB1.out.mono HBL.out).trans ((HB2.out.mono (Nat.le_trans HBL.out HB1.out.size)))
 have c02 : w2.cell? ⟨w.heap.size, 0, none⟩ = some (.int .i64 ak) := Ext.cell CA0.out (Ext.of HB2.out)
 clear hHeld hw2 CTJ CA1 HG1 HPT
 rw [← hab] at HG2 c02
 have HAB := hide hab
 try rw [← HAB.out]
 clear hab
 go_upto_region 2 with fail
 go_wp2_with fail
 refine (HPK.out _).mono ?_
 rintro en X ⟨rfl, hX⟩
 have hX2 := hX.symm
 clear hX
 subst hX2
 rw [hk10]
 obtain ⟨hlen2, Fs2, R2, cbs2, sv2, hO2, hab2, hq2⟩ := HG2.out
 obtain ⟨sp0, sc0, hsv0, c40, hsl0⟩ := hO2.saidAt
 clear hO2 hab2 hq2 hlen2 hsl0 hsv0 HPK
 by_cases h40 : said.length < 40
 · have h40i : (said.length : Int) - 40 < 0 := by omega
   have hl0 : 0 ≤ (said.length : Int) := by omega
   have hws : IntKind.i64.wrap ((said.length : Int) - 40) = (said.length : Int) - 40 := wrap_any _ (by omega) (by omega)
   go_wp2
   go_loopw [12, 13] (fun ku _ wr => ∃ (k : Nat) (st1 : Nat → NodeS), k ≤ said.length ∧ ku = .int .i64 k ∧ Moves n (st, said) (st1, said) ∧ CityG B es m nbs ks gv kv (.slice (some ⟨g, 0, none⟩) n cap) rb n cc T M ab #[.int .i64 ak, .int .i64 at1, .int .i64 af, .int .i64 ac, .int .i64 mk, .int .i64 mh, .int .i64 mr, .int .i64 mf, .int .i64 mv, .bool mn, .string ms, .string rec] 81 st1 said wr ∧ Below B w wr) (fun ku _ _ => said.length - (intOf ku).toNat)
   case atStart => exact ⟨0, st, by omega, by first | rfl | go_num | (congr 1; omega), Moves.refl _, HG2.out, HBW2.out⟩
   case round =>
    obtain ⟨k, st1, hkn, rfl, hmv1, hg1, hbw1⟩ := hrel
    have HMV1 := hide hmv1
    have HBO := hide hbw1
    have HGO := hide hg1
    clear hmv1 hbw1
    obtain ⟨hlen1, Fs1, R1, cbs1, sv1, hO1, hab1, hq1⟩ := hg1
    obtain ⟨sp1, sc1, hsv1, c41, hsl1⟩ := hO1.saidAt
    have c31 : wr.cell? ⟨cc, 3, none⟩ = some (.slice (some ⟨g, 0, none⟩) n cap) := cell_of_row wr cc 3 _ _ _ hO1.blk
    clear hO1 hab1 hq1 hlen1 hsl1 hsv1
    by_cases hend : k = said.length
    · have hge : ¬ (k : Int) < said.length := by omega
      have HMV9 := hide HMV1.out
      have HE9 := hide (HGO.out.e.mono (show T ≤ T + n by omega) (Nat.le_refl M))
      have HB9 := hide HBO.out
      clear hend
      have HHE := hide (hears_any HE9.out hn hM)
      go_wp2_with fail
      refine HHE.out.mono ?_
      rintro e w9 ⟨rfl, st2, said2, hmv2, hE2, hb2, ho2⟩
      have HEND : Hid (∃ st' said', Moves n (st, said) (st', said') ∧ CityE B es m rb n cc (T + n) (M + 100 * n) st' said' w9 ∧ Below B w w9 ∧ ∀ j, j < n → (st' j).out = []) := ⟨st2, said2, HMV9.out.trans hmv2, hE2, HB9.out.trans hb2, ho2⟩
      clear hmv2 hE2 hb2 ho2 HHE
      go_wp2
      first | exact bodyPost_end (v := .tuple #[]) (by simp [results, Tryz.results28]) rfl ⟨rfl, HEND.out⟩ | exact bodyPost_ret (v := .tuple #[]) (by simp [results, Tryz.results28]) rfl ⟨rfl, HEND.out⟩
    · have hlk : k < said.length := by omega
      have hlki : (k : Int) < said.length := by omega
      clear hend
      obtain ⟨wo, hwo⟩ : ∃ z, z = wr := ⟨_, rfl⟩
      subst hwo
      go_wp2
      go_loopw [13] (fun iv wr => ∃ (i : Nat) (st2 : Nat → NodeS), i ≤ n ∧ iv = .int .i64 i ∧ Moves n (st, said) (st2, said) ∧ CityG B es m nbs ks gv kv (.slice (some ⟨g, 0, none⟩) n cap) rb n cc T M ab #[.int .i64 ak, .int .i64 at1, .int .i64 af, .int .i64 ac, .int .i64 mk, .int .i64 mh, .int .i64 mr, .int .i64 mf, .int .i64 mv, .bool mn, .string ms, .string rec] 81 st2 said wr ∧ Below B w wr) (fun iv _ => n - (intOf iv).toNat)
      case atStart => exact ⟨0, st1, Nat.zero_le _, rfl, HMV1.out, HGO.out, HBO.out⟩
      case round =>
       obtain ⟨i, st2, hin, rfl, hmv2, hg2, hbw2⟩ := hrel
       have HMV2 := hide hmv2
       have HBW3 := hide hbw2
       have HGI := hide hg2
       clear hmv2 hbw2
       obtain ⟨hlen3, Fs3, R3, cbs3, sv3, hO3, hab3, hq3⟩ := hg2
       have c33 : wr.cell? ⟨cc, 3, none⟩ = some (.slice (some ⟨g, 0, none⟩) n cap) := cell_of_row wr cc 3 _ _ _ hO3.blk
       by_cases hendi : i = n
       · have hgei : ¬ (i : Int) < n := by omega
         clear hO3 hab3 hq3 hlen3 hendi
         go_wp2
         go_roundw
         case rel => exact ⟨k + 1, st2, by omega, by go_num, HMV2.out, HGI.out, HBW3.out⟩
         case measure => simp [intOf]; omega
       · have hi : i < n := by omega
         have hlti : (i : Int) < n := by omega
         have ck := hO3.nodeCell i hi
         obtain ⟨sp, sc, hsv, c43, hsl⟩ := hO3.saidAt
         obtain ⟨sb, hsp, csb, hosb⟩ := hsl (k) hlk
         subst hsp
         have HRV := hide (receive_any (said.getD (k) ByteArray.empty) (hO3.city.node i hi) hO3.city.globR (hO3.city.ok i hi) (by omega) (by omega))
         obtain ⟨fr, hfr⟩ : ∃ z, z = said.getD (k) ByteArray.empty := ⟨_, rfl⟩
         rw [← hfr] at HRV csb
         have HFM : Hid (fr ∈ said) := by rw [hfr]; exact getD_mem said ByteArray.empty (k) hlk
         have HO3 := hide hO3
         have HAB3 := hide hab3
         have HQ3 := hide hq3
         have HL3 := hide hlen3
         have HOSB := hide hosb
         have HOG := hide (hO3.onv g rfl)
         have C33 := hide c33
         have CK := hide ck
         have C43 := hide c43
         have CSB := hide csb
         clear hO3 hab3 hq3 hlen3 hendi hfr hsl hosb hsv
         have HRV2 : Hid (∀ W, Below wr.heap.size wr W → Calls Tryz.prog 29 #[.pointer (some ⟨nbs i, 0, none⟩), .string fr] W (RecvP B es m (Fs3 i) R3 (nbs i) (ks i) rb (cbs3 i) n i (st2 i) fr wr)) := fun W hW => recv_from HO3.out i hi fr hW (by omega)
         clear HRV
         have c33 := C33.out
         have ck := CK.out
         go_upto_region 13 with fail
         refine wp_region_held_drew (S := fun X => X.cell? ⟨cc, 3, none⟩ = some (.slice (some ⟨g, 0, none⟩) n cap) ∧ X.cell? ⟨g, i, none⟩ = some (.pointer (some ⟨nbs i, 0, none⟩)) ∧ X.cell? ⟨cc, 4, none⟩ = some (.slice (some ⟨sb, 0, none⟩) said.length sc) ∧ X.cell? ⟨sb, k, none⟩ = some (.string fr)) (by kernel_rfl) ⟨C33.out, CK.out, C43.out, CSB.out⟩ (fun hHeld => ?_)
         refine takeN [(0, some 66, pA cc 0), (1, some 67, pA cc 0), (2, some 68, pA cc 3), (3, some 69, .slice (some ⟨g, 0, none⟩) n cap), (4, some 70, .int .i64 (i : Int)), (5, some 71, pA g i), (6, some 72, pA (nbs i) 0), (7, some 73, pA cc 0), (8, some 74, pA cc 0), (9, some 75, pA cc 4), (10, some 76, .slice (some ⟨sb, 0, none⟩) said.length sc), (11, some 77, .int .i64 (k : Int)), (12, some 78, pA sb k), (13, some 79, .string fr)] _ _ hHeld (by repeat (first | exact True.intro | (refine tkc rfl rfl (Or.inl ⟨by rfl, fun x h => by have f0 : x.cell? ⟨cc, 3, none⟩ = some (.slice (some ⟨g, 0, none⟩) n cap) := h.1; have f1 : x.cell? ⟨g, i, none⟩ = some (.pointer (some ⟨nbs i, 0, none⟩)) := h.2.1; have f2 : x.cell? ⟨cc, 4, none⟩ = some (.slice (some ⟨sb, 0, none⟩) said.length sc) := h.2.2.1; have f3 : x.cell? ⟨sb, k, none⟩ = some (.string fr) := h.2.2.2; go_simp⟩) ?_; simp only [AP]))) ?_
         simp only [takesA, AP, pA]
         refine rdy1 14 (fun K hK => ?_)
         go_simp
         refine (HRV2.out _ ((Below.refl _ wr).drew)).mono ?_
         rintro e w5 ⟨F', R', hW5, hG5, hV5⟩
         have hb5 : ∀ b, OutB B Fs3 R3 ks n wr b → w5.heap[b]? = wr.heap[b]? := fun b hb => hG5.same.block b hb.2.1 (fun e => e.elim (hb.2.2.1 i hi) hb.2.2.2.1)
         have hS5 : w5.cell? ⟨cc, 3, none⟩ = some (.slice (some ⟨g, 0, none⟩) n cap) ∧ w5.cell? ⟨g, i, none⟩ = some (.pointer (some ⟨nbs i, 0, none⟩)) ∧ w5.cell? ⟨cc, 4, none⟩ = some (.slice (some ⟨sb, 0, none⟩) said.length sc) ∧ w5.cell? ⟨sb, k, none⟩ = some (.string fr) := ⟨(World.cell?_of_block (w := wr) (a := ⟨cc, 3, none⟩) (hb5 cc HO3.out.occ)).trans C33.out, (World.cell?_of_block (w := wr) (a := ⟨g, i, none⟩) (hb5 g HOG.out)).trans CK.out, (World.cell?_of_block (w := wr) (a := ⟨cc, 4, none⟩) (hb5 cc HO3.out.occ)).trans C43.out, (World.cell?_of_block (w := wr) (a := ⟨sb, k, none⟩) (hb5 sb HOSB.out)).trans CSB.out⟩
         obtain ⟨ev, rfl⟩ := recv_ret hV5
         refine hK.out _ _ (hS5) (fun hHeld => ?_)
         clear hK K
         try simp only [AP, AQ]
         refine wpAnyH_done (by kernel_rfl) ?_ _
         obtain ⟨hg5, hb6⟩ := CityG.turn HL3.out HO3.out HAB3.out HQ3.out hi hW5 hG5 ((HO3.out.city.ok i hi).receive) (Nat.le_refl T) (sgo_receive (st2 i) n i fr)
         have HG5 := hide hg5
         have HB5 : Hid (Below B w w5) := HBW3.out.trans hb6
         clear hW5 hG5 hg5 hb6 hS5 hb5 hHeld hV5 HRV2
         go_wp2
         go_roundw
         case rel => exact ⟨i + 1, _, by omega, by go_num, Moves.more _ _ _ HMV2.out (Move.recv st2 said i fr hi HFM.out), HG5.out, HB5.out⟩
         case measure => simp [intOf]; omega
 · have h40i : ¬ (said.length : Int) - 40 < 0 := by omega
   have hlm : said.length ≤ 4000000000000 := by have := HG2.out.1; omega
   have hws : IntKind.i64.wrap ((said.length : Int) - 40) = (said.length : Int) - 40 := wrap_any _ (by omega) (by omega)
   have hcast : (said.length : Int) - 40 = ((said.length - 40 : Nat) : Int) := by omega
   go_wp2
   go_loopw [12, 13] (fun ku _ wr => ∃ (k : Nat) (st1 : Nat → NodeS), k ≤ said.length ∧ ku = .int .i64 k ∧ Moves n (st, said) (st1, said) ∧ CityG B es m nbs ks gv kv (.slice (some ⟨g, 0, none⟩) n cap) rb n cc T M ab #[.int .i64 ak, .int .i64 at1, .int .i64 af, .int .i64 ac, .int .i64 mk, .int .i64 mh, .int .i64 mr, .int .i64 mf, .int .i64 mv, .bool mn, .string ms, .string rec] 81 st1 said wr ∧ Below B w wr) (fun ku _ _ => said.length - (intOf ku).toNat)
   case atStart => exact ⟨said.length - 40, st, by omega, by first | rfl | go_num | (congr 1; omega), Moves.refl _, HG2.out, HBW2.out⟩
   case round =>
    obtain ⟨k, st1, hkn, rfl, hmv1, hg1, hbw1⟩ := hrel
    have HMV1 := hide hmv1
    have HBO := hide hbw1
    have HGO := hide hg1
    clear hmv1 hbw1
    obtain ⟨hlen1, Fs1, R1, cbs1, sv1, hO1, hab1, hq1⟩ := hg1
    obtain ⟨sp1, sc1, hsv1, c41, hsl1⟩ := hO1.saidAt
    have c31 : wr.cell? ⟨cc, 3, none⟩ = some (.slice (some ⟨g, 0, none⟩) n cap) := cell_of_row wr cc 3 _ _ _ hO1.blk
    clear hO1 hab1 hq1 hlen1 hsl1 hsv1
    by_cases hend : k = said.length
    · have hge : ¬ (k : Int) < said.length := by omega
      have HMV9 := hide HMV1.out
      have HE9 := hide (HGO.out.e.mono (show T ≤ T + n by omega) (Nat.le_refl M))
      have HB9 := hide HBO.out
      clear hend
      have HHE := hide (hears_any HE9.out hn hM)
      go_wp2_with fail
      refine HHE.out.mono ?_
      rintro e w9 ⟨rfl, st2, said2, hmv2, hE2, hb2, ho2⟩
      have HEND : Hid (∃ st' said', Moves n (st, said) (st', said') ∧ CityE B es m rb n cc (T + n) (M + 100 * n) st' said' w9 ∧ Below B w w9 ∧ ∀ j, j < n → (st' j).out = []) := ⟨st2, said2, HMV9.out.trans hmv2, hE2, HB9.out.trans hb2, ho2⟩
      clear hmv2 hE2 hb2 ho2 HHE
      go_wp2
      first | exact bodyPost_end (v := .tuple #[]) (by simp [results, Tryz.results28]) rfl ⟨rfl, HEND.out⟩ | exact bodyPost_ret (v := .tuple #[]) (by simp [results, Tryz.results28]) rfl ⟨rfl, HEND.out⟩
    · have hlk : k < said.length := by omega
      have hlki : (k : Int) < said.length := by omega
      clear hend
      obtain ⟨wo, hwo⟩ : ∃ z, z = wr := ⟨_, rfl⟩
      subst hwo
      go_wp2
      go_loopw [13] (fun iv wr => ∃ (i : Nat) (st2 : Nat → NodeS), i ≤ n ∧ iv = .int .i64 i ∧ Moves n (st, said) (st2, said) ∧ CityG B es m nbs ks gv kv (.slice (some ⟨g, 0, none⟩) n cap) rb n cc T M ab #[.int .i64 ak, .int .i64 at1, .int .i64 af, .int .i64 ac, .int .i64 mk, .int .i64 mh, .int .i64 mr, .int .i64 mf, .int .i64 mv, .bool mn, .string ms, .string rec] 81 st2 said wr ∧ Below B w wr) (fun iv _ => n - (intOf iv).toNat)
      case atStart => exact ⟨0, st1, Nat.zero_le _, rfl, HMV1.out, HGO.out, HBO.out⟩
      case round =>
       obtain ⟨i, st2, hin, rfl, hmv2, hg2, hbw2⟩ := hrel
       have HMV2 := hide hmv2
       have HBW3 := hide hbw2
       have HGI := hide hg2
       clear hmv2 hbw2
       obtain ⟨hlen3, Fs3, R3, cbs3, sv3, hO3, hab3, hq3⟩ := hg2
       have c33 : wr.cell? ⟨cc, 3, none⟩ = some (.slice (some ⟨g, 0, none⟩) n cap) := cell_of_row wr cc 3 _ _ _ hO3.blk
       by_cases hendi : i = n
       · have hgei : ¬ (i : Int) < n := by omega
         clear hO3 hab3 hq3 hlen3 hendi
         go_wp2
         go_roundw
         case rel => exact ⟨k + 1, st2, by omega, by go_num, HMV2.out, HGI.out, HBW3.out⟩
         case measure => simp [intOf]; omega
       · have hi : i < n := by omega
         have hlti : (i : Int) < n := by omega
         have ck := hO3.nodeCell i hi
         obtain ⟨sp, sc, hsv, c43, hsl⟩ := hO3.saidAt
         obtain ⟨sb, hsp, csb, hosb⟩ := hsl (k) hlk
         subst hsp
         have HRV := hide (receive_any (said.getD (k) ByteArray.empty) (hO3.city.node i hi) hO3.city.globR (hO3.city.ok i hi) (by omega) (by omega))
         obtain ⟨fr, hfr⟩ : ∃ z, z = said.getD (k) ByteArray.empty := ⟨_, rfl⟩
         rw [← hfr] at HRV csb
         have HFM : Hid (fr ∈ said) := by rw [hfr]; exact getD_mem said ByteArray.empty (k) hlk
         have HO3 := hide hO3
         have HAB3 := hide hab3
         have HQ3 := hide hq3
         have HL3 := hide hlen3
         have HOSB := hide hosb
         have HOG := hide (hO3.onv g rfl)
         have C33 := hide c33
         have CK := hide ck
         have C43 := hide c43
         have CSB := hide csb
         clear hO3 hab3 hq3 hlen3 hendi hfr hsl hosb hsv
         have HRV2 : Hid (∀ W, Below wr.heap.size wr W → Calls Tryz.prog 29 #[.pointer (some ⟨nbs i, 0, none⟩), .string fr] W (RecvP B es m (Fs3 i) R3 (nbs i) (ks i) rb (cbs3 i) n i (st2 i) fr wr)) := fun W hW => recv_from HO3.out i hi fr hW (by omega)
         clear HRV
         have c33 := C33.out
         have ck := CK.out
         go_upto_region 13 with fail
         refine wp_region_held_drew (S := fun X => X.cell? ⟨cc, 3, none⟩ = some (.slice (some ⟨g, 0, none⟩) n cap) ∧ X.cell? ⟨g, i, none⟩ = some (.pointer (some ⟨nbs i, 0, none⟩)) ∧ X.cell? ⟨cc, 4, none⟩ = some (.slice (some ⟨sb, 0, none⟩) said.length sc) ∧ X.cell? ⟨sb, k, none⟩ = some (.string fr)) (by kernel_rfl) ⟨C33.out, CK.out, C43.out, CSB.out⟩ (fun hHeld => ?_)
         refine takeN [(0, some 66, pA cc 0), (1, some 67, pA cc 0), (2, some 68, pA cc 3), (3, some 69, .slice (some ⟨g, 0, none⟩) n cap), (4, some 70, .int .i64 (i : Int)), (5, some 71, pA g i), (6, some 72, pA (nbs i) 0), (7, some 73, pA cc 0), (8, some 74, pA cc 0), (9, some 75, pA cc 4), (10, some 76, .slice (some ⟨sb, 0, none⟩) said.length sc), (11, some 77, .int .i64 (k : Int)), (12, some 78, pA sb k), (13, some 79, .string fr)] _ _ hHeld (by repeat (first | exact True.intro | (refine tkc rfl rfl (Or.inl ⟨by rfl, fun x h => by have f0 : x.cell? ⟨cc, 3, none⟩ = some (.slice (some ⟨g, 0, none⟩) n cap) := h.1; have f1 : x.cell? ⟨g, i, none⟩ = some (.pointer (some ⟨nbs i, 0, none⟩)) := h.2.1; have f2 : x.cell? ⟨cc, 4, none⟩ = some (.slice (some ⟨sb, 0, none⟩) said.length sc) := h.2.2.1; have f3 : x.cell? ⟨sb, k, none⟩ = some (.string fr) := h.2.2.2; go_simp⟩) ?_; simp only [AP]))) ?_
         simp only [takesA, AP, pA]
         refine rdy1 14 (fun K hK => ?_)
         go_simp
         refine (HRV2.out _ ((Below.refl _ wr).drew)).mono ?_
         rintro e w5 ⟨F', R', hW5, hG5, hV5⟩
         have hb5 : ∀ b, OutB B Fs3 R3 ks n wr b → w5.heap[b]? = wr.heap[b]? := fun b hb => hG5.same.block b hb.2.1 (fun e => e.elim (hb.2.2.1 i hi) hb.2.2.2.1)
         have hS5 : w5.cell? ⟨cc, 3, none⟩ = some (.slice (some ⟨g, 0, none⟩) n cap) ∧ w5.cell? ⟨g, i, none⟩ = some (.pointer (some ⟨nbs i, 0, none⟩)) ∧ w5.cell? ⟨cc, 4, none⟩ = some (.slice (some ⟨sb, 0, none⟩) said.length sc) ∧ w5.cell? ⟨sb, k, none⟩ = some (.string fr) := ⟨(World.cell?_of_block (w := wr) (a := ⟨cc, 3, none⟩) (hb5 cc HO3.out.occ)).trans C33.out, (World.cell?_of_block (w := wr) (a := ⟨g, i, none⟩) (hb5 g HOG.out)).trans CK.out, (World.cell?_of_block (w := wr) (a := ⟨cc, 4, none⟩) (hb5 cc HO3.out.occ)).trans C43.out, (World.cell?_of_block (w := wr) (a := ⟨sb, k, none⟩) (hb5 sb HOSB.out)).trans CSB.out⟩
         obtain ⟨ev, rfl⟩ := recv_ret hV5
         refine hK.out _ _ (hS5) (fun hHeld => ?_)
         clear hK K
         try simp only [AP, AQ]
         refine wpAnyH_done (by kernel_rfl) ?_ _
         obtain ⟨hg5, hb6⟩ := CityG.turn HL3.out HO3.out HAB3.out HQ3.out hi hW5 hG5 ((HO3.out.city.ok i hi).receive) (Nat.le_refl T) (sgo_receive (st2 i) n i fr)
         have HG5 := hide hg5
         have HB5 : Hid (Below B w w5) := HBW3.out.trans hb6
         clear hW5 hG5 hg5 hb6 hS5 hb5 hHeld hV5 HRV2
         go_wp2
         go_roundw
         case rel => exact ⟨i + 1, _, by omega, by go_num, Moves.more _ _ _ HMV2.out (Move.recv st2 said i fr hi HFM.out), HG5.out, HB5.out⟩
         case measure => simp [intOf]; omega

theorem happens_any {B : Nat} {es : List Addr} {m : Int} {rb n cc T M : Nat} {st : Nat → NodeS} {said : List ByteArray} (a : ActV) {w : World} (h : CityE B es m rb n cc T M st said w) (ha : ActOk a) (hn : n ≤ 8) (hM : M + 100 * n ≤ 4000000000000) (hT : T + n ≤ 1000000000000) :
 Calls Tryz.prog 28 #[.pointer (some ⟨cc, 0, none⟩), .agg a.cells] w fun e w' => e = .returned (.tuple #[]) ∧ ∃ st' said', Moves n (st, said) (st', said') ∧ CityE B es m rb n cc (T + n) (M + 100 * n) st' said' w' ∧ Below B w w' ∧ ∀ j, j < n → (st' j).out = [] := by
 have h11 : pickN a.k 11 < 11 := pickN_lt (by omega)
 obtain ⟨r, hr⟩ : ∃ r, r = pickN a.k 11 := ⟨_, rfl⟩
 rw [← hr] at h11
 match r, h11, hr with
 | 0, _, hr => exact happens_recv a h ha (Or.inl hr.symm) hn hM hT
 | 1, _, hr => exact happens_recv a h ha (Or.inr (Or.inl hr.symm)) hn hM hT
 | 2, _, hr => exact happens_recv a h ha (Or.inr (Or.inr (Or.inl hr.symm))) hn hM hT
 | 3, _, hr => exact happens_recv a h ha (Or.inr (Or.inr (Or.inr hr.symm))) hn hM hT
 | 4, _, hr => exact happens_recv4 a h ha hr.symm hn hM hT
 | 5, _, hr => exact happens_tick1 a h ha hr.symm hn hM hT
 | 6, _, hr => exact happens_ticks a h ha hr.symm hn hM hT
 | 7, _, hr => exact happens_sub a h ha hr.symm hn hM hT
 | 8, _, hr => exact happens_lie a h ha (Or.inl hr.symm) hn hM hT
 | 9, _, hr => exact happens_lie a h ha (Or.inr hr.symm) hn hM hT
 | 10, _, hr => exact happens_all a h ha hr.symm hn hM hT
 | r + 11, h, _ => exact absurd h (by omega)

end Go.Proofs.YtcfjhbcpjpgodaaGreatDoor
