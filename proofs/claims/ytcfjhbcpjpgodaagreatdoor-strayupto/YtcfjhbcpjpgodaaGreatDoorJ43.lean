/- Proved here: what an act does to a city: happens_recv4. -/
import Derived.Test.YtcfjhbcpjpgodaaGreatDoorJ35
import Derived.Test.YtcfjhbcpjpgodaaGreatDoorJ38
import Derived.Test.YtcfjhbcpjpgodaaGreatDoorJ39
import Derived.Test.YtcfjhbcpjpgodaaGreatDoorJ40
import Derived.Test.YtcfjhbcpjpgodaaGreatDoorJ46
import Derived.Deep.DeepCutAuto
import Derived.Test.YtcfjhbcpjpgodaaGreatDoorJ42
import Derived.Test.YtcfjhbcpjpgodaaGreatDoorTakeL
namespace Go.Proofs.YtcfjhbcpjpgodaaGreatDoor
open Go.RowKit

set_option linter.unusedSimpArgs false in
set_option linter.unusedVariables false in
set_option maxRecDepth 100000 in
set_option maxHeartbeats 25600000 in
theorem happens_recv4 {B : Nat} {es : List Addr} {m : Int} {rb n cc T M : Nat} {st : Nat → NodeS} {said : List ByteArray} (a : ActV) {w : World} (h : CityE B es m rb n cc T M st said w) (ha : ActOk a) (hk : pickN a.k 11 = 4) (hn : n ≤ 8) (hM : M + 100 * n ≤ 4000000000000) (hT : T + n ≤ 1000000000000) :
 Calls Tryz.prog 28 #[.pointer (some ⟨cc, 0, none⟩), .agg a.cells] w fun e w' => e = .returned (.tuple #[]) ∧ ∃ st' said', Moves n (st, said) (st', said') ∧ CityE B es m rb n cc (T + n) (M + 100 * n) st' said' w' ∧ Below B w w' ∧ ∀ j, j < n → (st' j).out = [] := by
 obtain ⟨ak, at1, af, ac, ⟨mk, mh, mr, mf, mv, mn, ms⟩, rec⟩ := a
 obtain ⟨hlen, Fs, R, nbs, ks, cbs, gv, kv, nv, sv, hO⟩ := h
 obtain ⟨g, cap, rfl, hmax, hgc, hnp⟩ := hO.nodeAt
 have hnpos := hO.npos
 obtain ⟨tj, htj⟩ : ∃ z, z = pickN at1 n := ⟨_, rfl⟩
 have htn : tj < n := by rw [htj]; exact pickN_lt hO.npos
 have htni : (tj : Int) < n := by omega
 show Calls Tryz.prog 28 #[.pointer (some ⟨cc, 0, none⟩), .agg #[.int .i64 ak, .int .i64 at1, .int .i64 af, .int .i64 ac, .int .i64 mk, .int .i64 mh, .int .i64 mr, .int .i64 mf, .int .i64 mv, .bool mn, .string ms, .string rec]] w _
 obtain ⟨w1, hw1⟩ : ∃ z, z = w.alloc (.cells #[.int .i64 ak, .int .i64 at1, .int .i64 af, .int .i64 ac, .int .i64 mk, .int .i64 mh, .int .i64 mr, .int .i64 mf, .int .i64 mv, .bool mn, .string ms, .string rec] 81) := ⟨_, rfl⟩
 have hb1 : Below w.heap.size w w1 := by rw [hw1]; exact (Below.refl _ w).alloc (Nat.le_refl _) _
 have hq1 : w1.heap[w.heap.size]? = some (.cells #[.int .i64 ak, .int .i64 at1, .int .i64 af, .int .i64 ac, .int .i64 mk, .int .i64 mh, .int .i64 mr, .int .i64 mf, .int .i64 mv, .bool mn, .string ms, .string rec] 81 (0, 0)) := by rw [hw1]; exact heap_alloc_new w _
 have C3 : Hid (w1.cell? ⟨cc, 3, none⟩ = some (.slice (some ⟨g, 0, none⟩) n cap)) := cell_of_row w1 cc 3 _ _ _ (blk hO.blk hb1)
 have CTJ : Hid (w1.cell? ⟨g, tj, none⟩ = some (.pointer (some ⟨nbs tj, 0, none⟩))) := (hO.below hb1).nodeCell tj htn
 have CA1 : Hid (w1.cell? ⟨w.heap.size, 1, none⟩ = some (.int .i64 at1)) := cell_of_row w1 w.heap.size 1 _ _ _ hq1
 have CA0 : Hid (w1.cell? ⟨w.heap.size, 0, none⟩ = some (.int .i64 ak)) := cell_of_row w1 w.heap.size 0 _ _ _ hq1
 have HPT : Hid (∀ W, Calls Tryz.prog 26 #[.int .i64 at1, .int .i64 (n : Int)] W fun e w' => e = .returned (.int .i64 (tj : Int)) ∧ w' = W) := fun W => by rw [htj]; exact pick_at at1 n W ha.t.1 ha.t.2 hnpos (by omega)
 have HPK : Hid (∀ W, Calls Tryz.prog 26 #[.int .i64 ak, .int .i64 11] W fun e w' => e = .returned (.int .i64 (pickN ak 11 : Int)) ∧ w' = W) := fun W => pick_at ak 11 W ha.k.1 ha.k.2 (by omega) (by omega)
 have HG1 : Hid (CityG B es m nbs ks gv kv (.slice (some ⟨g, 0, none⟩) n cap) rb n cc T M w.heap.size #[.int .i64 ak, .int .i64 at1, .int .i64 af, .int .i64 ac, .int .i64 mk, .int .i64 mh, .int .i64 mr, .int .i64 mf, .int .i64 mv, .bool mn, .string ms, .string rec] 81 st said w1) := CityG.of hO hlen hb1 (Nat.le_refl _) hq1
 have HBL : Hid (B ≤ w.heap.size) := hO.bl
 have HB1 := hide hb1
 have HW1 := hide hw1
 have HAO := hide ha
 obtain ⟨ab, hab⟩ : ∃ z, z = w.heap.size := ⟨_, rfl⟩
 have HGC := hide hgc
 clear hO hnp htj hb1 hq1 hw1 ha hlen
 go_enter Tryz.func28, Tryz.ntmps28
 go_upto_region 1 with fail
 rw [← HW1.out]
 refine wp_region_held_drew (S := fun X => Below w1.heap.size w1 X) (by kernel_rfl) ((Below.refl _ w1).drew) (fun hHeld => ?_)
 refine takeN [(0, some 14, pA cc 0), (1, some 15, pA cc 0), (2, some 16, pA cc 3), (3, some 17, .slice (some ⟨g, 0, none⟩) n cap), (4, some 18, pA w.heap.size 1), (5, some 19, .int .i64 at1), (6, some 20, pA cc 0), (7, some 21, pA cc 0), (8, some 22, pA cc 3), (9, some 23, .slice (some ⟨g, 0, none⟩) n cap), (10, some 24, .int .i64 (n : Int))] _ _ hHeld (by repeat (first | exact True.intro | (refine tkc rfl rfl (Or.inl ⟨by rfl, fun x h => by have f0 : x.cell? ⟨cc, 3, none⟩ = some (.slice (some ⟨g, 0, none⟩) n cap) := Ext.cell C3.out (Ext.of h); have f1 : x.cell? ⟨w.heap.size, 1, none⟩ = some (.int .i64 at1) := Ext.cell CA1.out (Ext.of h); go_simp⟩) ?_; simp only [AP]))) ?_
 simp only [takesA, AP, pA]
 refine rdy1 11 (fun K hK => ?_)
 go_simp
 refine (HPT.out _).mono ?_
 rintro en X2 ⟨rfl, rfl⟩
 refine hK.out _ _ (hHeld) (fun hHeld => ?_)
 clear hK K
 try simp only [AP, AQ]
 refine takeN [(12, some 26, pA g tj), (13, some 27, pA (nbs tj) 0), (14, some 4, pA (nbs tj) 0)] _ _ hHeld (by repeat (first | exact True.intro | (refine tkc rfl rfl (Or.inl ⟨by rfl, fun x h => by have f0 : x.cell? ⟨g, tj, none⟩ = some (.pointer (some ⟨nbs tj, 0, none⟩)) := Ext.cell CTJ.out (Ext.of h); go_simp⟩) ?_; simp only [AP]))) ?_
 simp only [takesA, AP, pA]
 refine wpAnyH_done (by kernel_rfl) ?_ _
 obtain ⟨w2, hw2⟩ : ∃ z, z = w1.drew := ⟨_, rfl⟩
 have HB2 : Hid (Below w1.heap.size w1 w2) := by rw [hw2]; exact (Below.refl _ w1).drew
 rw [← hw2]
 have HG2 := hide (HG1.out.below HB2.out)
 have HBW2 : Hid (Below B w w2) := (HB1.out.mono HBL.out).trans ((HB2.out.mono (Nat.le_trans HBL.out HB1.out.size)))
 have c02 : w2.cell? ⟨w.heap.size, 0, none⟩ = some (.int .i64 ak) := Ext.cell CA0.out (Ext.of HB2.out)
 clear hHeld hw2 CTJ CA1 HG1 HPT
 rw [← hab] at HG2 c02
 have HAB := hide hab
 try rw [← HAB.out]
 clear hab
 go_upto_region 2 with fail
 go_wp2_with fail
 refine (HPK.out _).mono ?_
 rintro en X ⟨rfl, hX⟩
 have hX2 := hX.symm
 clear hX
 subst hX2
 rw [hk]
 obtain ⟨hlen2, Fs2, R2, cbs2, sv2, hO2, hab2, hq2⟩ := HG2.out
 obtain ⟨sp0, sc0, hsv0, c40, hsl0⟩ := hO2.saidAt
 have cAC0 : w2.cell? ⟨ab, 3, none⟩ = some (.int .i64 ac) := cell_of_row w2 ab 3 _ _ _ hq2
 have CF2 : Hid (w2.cell? ⟨ab, 2, none⟩ = some (.int .i64 af)) := cell_of_row w2 ab 2 _ _ _ hq2
 have C42 := hide c40
 have hlm : said.length ≤ 4000000000000 := by omega
 clear hO2 hab2 hq2 hlen2 hsl0 hsv0
 obtain ⟨q, hq⟩ : ∃ z, z = pickN ac 12 := ⟨_, rfl⟩
 have hq12 : q < 12 := by rw [hq]; exact pickN_lt (by omega)
 have HPC : Hid (∀ W, Calls Tryz.prog 26 #[.int .i64 ac, .int .i64 12] W fun e w' => e = .returned (.int .i64 (q : Int)) ∧ w' = W) := fun W => by rw [hq]; exact pick_at ac 12 W HAO.out.c.1 HAO.out.c.2 (by omega) (by omega)
 clear hq
 by_cases h0 : said.length = 0
 · have h0i : ¬ (0 : Int) < said.length := by omega
   have hq0 : (0 : Int) ≤ q := by omega
   go_wp2
   go_loopw [6, 7] (fun ku _ wr => ku = .int .i64 0 ∧ wr = w2) (fun _ _ _ => 0)
   case atStart => exact ⟨rfl, rfl⟩
   case round =>
    obtain ⟨rfl, hwr⟩ := hrel
    subst hwr
    go_wp2_with fail
    refine (HPC.out _).mono ?_
    rintro e w8 ⟨rfl, hw8⟩
    have hw7 := hw8.symm
    clear hw8
    subst hw7
    have HMV9 : Hid (Moves n (st, said) (st, said)) := Moves.refl _
    have HE9 := hide (HG2.out.e.mono (show T ≤ T + n by omega) (Nat.le_refl M))
    have HB9 := hide HBW2.out
    have HHE := hide (hears_any HE9.out hn hM)
    go_wp2_with fail
    refine HHE.out.mono ?_
    rintro e w9 ⟨rfl, st2, said2, hmv2, hE2, hb2, ho2⟩
    have HEND : Hid (∃ st' said', Moves n (st, said) (st', said') ∧ CityE B es m rb n cc (T + n) (M + 100 * n) st' said' w9 ∧ Below B w w9 ∧ ∀ j, j < n → (st' j).out = []) := ⟨st2, said2, HMV9.out.trans hmv2, hE2, HB9.out.trans hb2, ho2⟩
    clear hmv2 hE2 hb2 ho2 HHE
    go_wp2
    first | exact bodyPost_end (v := .tuple #[]) (by simp [results, Tryz.results28]) rfl ⟨rfl, HEND.out⟩ | exact bodyPost_ret (v := .tuple #[]) (by simp [results, Tryz.results28]) rfl ⟨rfl, HEND.out⟩
 · have h0i : (0 : Int) < said.length := by omega
   obtain ⟨f, hf⟩ : ∃ z, z = pickN af said.length := ⟨_, rfl⟩
   have hfn : f < said.length := by rw [hf]; exact pickN_lt (by omega)
   have HPF : Hid (∀ W, Calls Tryz.prog 26 #[.int .i64 af, .int .i64 (said.length : Int)] W fun e w' => e = .returned (.int .i64 (f : Int)) ∧ w' = W) := fun W => by rw [hf]; exact pick_big af said.length W HAO.out.f.1 HAO.out.f.2 (by omega) hlm
   clear hf
   go_upto_region 21 with fail
   refine wp_region_held_drew (S := fun X => Below w2.heap.size w2 X) (by kernel_rfl) ((Below.refl _ w2).drew) (fun hHeld => ?_)
   refine takeN [(0, some 93, pA ab 2), (1, some 94, .int .i64 af), (2, some 95, pA cc 0), (3, some 96, pA cc 0), (4, some 97, pA cc 4), (5, some 98, .slice sp0 said.length sc0), (6, some 99, .int .i64 (said.length : Int))] _ _ hHeld (by repeat (first | exact True.intro | (refine tkc rfl rfl (Or.inl ⟨by rfl, fun x h => by have f0 : x.cell? ⟨ab, 2, none⟩ = some (.int .i64 af) := Ext.cell CF2.out (Ext.of h); have f1 : x.cell? ⟨cc, 4, none⟩ = some (.slice sp0 said.length sc0) := Ext.cell C42.out (Ext.of h); go_simp⟩) ?_; simp only [AP]))) ?_
   simp only [takesA, AP, pA]
   refine rdy1 7 (fun K hK => ?_)
   go_simp
   refine (HPF.out _).mono ?_
   rintro en X2 ⟨rfl, rfl⟩
   refine hK.out _ _ (hHeld) (fun hHeld => ?_)
   clear hK K
   try simp only [AP, AQ]
   refine takeM [(8, some 5, .int .i64 (f : Int))] _ _ hHeld ?_
   simp only [takesA, AP]
   refine wpAnyH_done (by kernel_rfl) ?_ _
   obtain ⟨w3, hw3⟩ : ∃ z, z = w2.drew := ⟨_, rfl⟩
   rw [← hw3]
   have HB3 : Hid (Below w2.heap.size w2 w3) := by rw [hw3]; exact (Below.refl _ w2).drew
   have HG3 := hide (HG2.out.below HB3.out)
   have HBW3a : Hid (Below B w w3) := HBW2.out.trans (HB3.out.mono (Below.bl2 HBW2.out HBL.out))
   clear hHeld hw3 c40 cAC0 HG2 HB3
   go_wp2
   go_loopw [6, 7] (fun ku _ wr => ∃ (k : Nat) (st1 : Nat → NodeS), k ≤ 12 ∧ ku = .int .i64 k ∧ Moves n (st, said) (st1, said) ∧ CityG B es m nbs ks gv kv (.slice (some ⟨g, 0, none⟩) n cap) rb n cc T M ab #[.int .i64 ak, .int .i64 at1, .int .i64 af, .int .i64 ac, .int .i64 mk, .int .i64 mh, .int .i64 mr, .int .i64 mf, .int .i64 mv, .bool mn, .string ms, .string rec] 81 st1 said wr ∧ Below B w wr) (fun ku _ _ => 12 - (intOf ku).toNat)
   case atStart => exact ⟨0, st, by omega, rfl, Moves.refl _, HG3.out, HBW3a.out⟩
   case round =>
    obtain ⟨k, st1, hkn, rfl, hmv1, hg1, hbw1⟩ := hrel
    have HMV1 := hide hmv1
    have HBO := hide hbw1
    have HGO := hide hg1
    clear hmv1 hbw1
    obtain ⟨hlen1, Fs1, R1, cbs1, sv1, hO1, hab1, hq1⟩ := hg1
    obtain ⟨sp1, sc1, hsv1, c41, hsl1⟩ := hO1.saidAt
    have c31 : wr.cell? ⟨cc, 3, none⟩ = some (.slice (some ⟨g, 0, none⟩) n cap) := cell_of_row wr cc 3 _ _ _ hO1.blk
    have cAC : wr.cell? ⟨ab, 3, none⟩ = some (.int .i64 ac) := cell_of_row wr ab 3 _ _ _ hq1
    clear hO1 hab1 hq1 hlen1 hsl1 hsv1
    obtain ⟨fk, hfk0⟩ : ∃ z, z = f + k := ⟨_, rfl⟩
    have hwk : IntKind.i64.wrap ((f : Int) + (k : Int)) = (fk : Int) := by rw [wrap_any _ (by omega) (by omega)]; omega
    clear hfk0
    go_wp2_with fail
    refine (HPC.out _).mono ?_
    rintro e w8 ⟨rfl, hw8⟩
    have hw7 := hw8.symm
    clear hw8
    subst hw7
    by_cases hkq : k ≤ q
    · have hkqi : (k : Int) ≤ q := by omega
      by_cases hfk : fk < said.length
      · have hfki : (fk : Int) < said.length := by omega
        obtain ⟨wo, hwo⟩ : ∃ z, z = wr := ⟨_, rfl⟩
        subst hwo
        go_wp2
        go_loopw [7] (fun iv wr => ∃ (i : Nat) (st2 : Nat → NodeS), i ≤ n ∧ iv = .int .i64 i ∧ Moves n (st, said) (st2, said) ∧ CityG B es m nbs ks gv kv (.slice (some ⟨g, 0, none⟩) n cap) rb n cc T M ab #[.int .i64 ak, .int .i64 at1, .int .i64 af, .int .i64 ac, .int .i64 mk, .int .i64 mh, .int .i64 mr, .int .i64 mf, .int .i64 mv, .bool mn, .string ms, .string rec] 81 st2 said wr ∧ Below B w wr) (fun iv _ => n - (intOf iv).toNat)
        case atStart => exact ⟨0, st1, Nat.zero_le _, rfl, HMV1.out, HGO.out, HBO.out⟩
        case round =>
         obtain ⟨i, st2, hin, rfl, hmv2, hg2, hbw2⟩ := hrel
         have HMV2 := hide hmv2
         have HBW3 := hide hbw2
         have HGI := hide hg2
         clear hmv2 hbw2
         obtain ⟨hlen3, Fs3, R3, cbs3, sv3, hO3, hab3, hq3⟩ := hg2
         have c33 : wr.cell? ⟨cc, 3, none⟩ = some (.slice (some ⟨g, 0, none⟩) n cap) := cell_of_row wr cc 3 _ _ _ hO3.blk
         by_cases hendi : i = n
         · have hgei : ¬ (i : Int) < n := by omega
           clear hO3 hab3 hq3 hlen3 hendi
           go_wp2
           go_roundw
           case rel => exact ⟨k + 1, st2, by omega, by go_num, HMV2.out, HGI.out, HBW3.out⟩
           case measure => simp [intOf]; omega
         · have hi : i < n := by omega
           have hlti : (i : Int) < n := by omega
           have ck := hO3.nodeCell i hi
           obtain ⟨sp, sc, hsv, c43, hsl⟩ := hO3.saidAt
           obtain ⟨sb, hsp, csb, hosb⟩ := hsl (fk) hfk
           subst hsp
           have HRV := hide (receive_any (said.getD (fk) ByteArray.empty) (hO3.city.node i hi) hO3.city.globR (hO3.city.ok i hi) (by omega) (by omega))
           obtain ⟨fr, hfr⟩ : ∃ z, z = said.getD (fk) ByteArray.empty := ⟨_, rfl⟩
           rw [← hfr] at HRV csb
           have HFM : Hid (fr ∈ said) := by rw [hfr]; exact getD_mem said ByteArray.empty (fk) hfk
           have HO3 := hide hO3
           have HAB3 := hide hab3
           have HQ3 := hide hq3
           have HL3 := hide hlen3
           have HOSB := hide hosb
           have HOG := hide (hO3.onv g rfl)
           have C33 := hide c33
           have CK := hide ck
           have C43 := hide c43
           have CSB := hide csb
           clear hO3 hab3 hq3 hlen3 hendi hfr hsl hosb hsv
           have HRV2 : Hid (∀ W, Below wr.heap.size wr W → Calls Tryz.prog 29 #[.pointer (some ⟨nbs i, 0, none⟩), .string fr] W (RecvP B es m (Fs3 i) R3 (nbs i) (ks i) rb (cbs3 i) n i (st2 i) fr wr)) := fun W hW => recv_from HO3.out i hi fr hW (by omega)
           clear HRV
           have c33 := C33.out
           have ck := CK.out
           have cA0 : wr.cell? ⟨ab, 0, none⟩ = some (.int .i64 ak) := cell_of_row wr ab 0 _ _ _ HQ3.out
           by_cases hpe : nbs i = nbs tj
           focus
            have hpe2 := nodeEq_same hpe wr
            clear hpe
           rotate_left
           focus
            obtain ⟨Ci, hCi⟩ := (HO3.out.city.node i hi).blkE
            obtain ⟨Ct, hCt⟩ := (HO3.out.city.node tj htn).blkE
            have hpe2 := nodeEq_other hpe hCi hCt
            clear hCi hCt hpe
            go_wp2_with fail
            refine (HPK.out _).mono ?_
            rintro e w8 ⟨rfl, hw8⟩
            have hw7 := hw8.symm
            clear hw8
            subst hw7
            rw [hk]
           rotate_left
           all_goals
            go_upto_region 29 with fail
            refine wp_region_held_drew (S := fun X => X.cell? ⟨cc, 3, none⟩ = some (.slice (some ⟨g, 0, none⟩) n cap) ∧ X.cell? ⟨g, i, none⟩ = some (.pointer (some ⟨nbs i, 0, none⟩)) ∧ X.cell? ⟨cc, 4, none⟩ = some (.slice (some ⟨sb, 0, none⟩) said.length sc) ∧ X.cell? ⟨sb, fk, none⟩ = some (.string fr)) (by kernel_rfl) ⟨C33.out, CK.out, C43.out, CSB.out⟩ (fun hHeld => ?_)
            refine takeN [(0, some 153, pA cc 0), (1, some 154, pA cc 0), (2, some 155, pA cc 3), (3, some 156, .slice (some ⟨g, 0, none⟩) n cap), (4, some 157, .int .i64 (i : Int)), (5, some 158, pA g i), (6, some 159, pA (nbs i) 0), (7, some 160, pA cc 0), (8, some 161, pA cc 0), (9, some 162, pA cc 4), (10, some 163, .slice (some ⟨sb, 0, none⟩) said.length sc), (11, some 164, .int .i64 (f : Int)), (12, some 165, .int .i64 (k : Int)), (13, some 166, .int .i64 (fk : Int)), (14, some 167, pA sb fk), (15, some 168, .string fr)] _ _ hHeld (by repeat (first | exact True.intro | (refine tkc rfl rfl (Or.inl ⟨by rfl, fun x h => by have f0 : x.cell? ⟨cc, 3, none⟩ = some (.slice (some ⟨g, 0, none⟩) n cap) := h.1; have f1 : x.cell? ⟨g, i, none⟩ = some (.pointer (some ⟨nbs i, 0, none⟩)) := h.2.1; have f2 : x.cell? ⟨cc, 4, none⟩ = some (.slice (some ⟨sb, 0, none⟩) said.length sc) := h.2.2.1; have f3 : x.cell? ⟨sb, fk, none⟩ = some (.string fr) := h.2.2.2; go_simp⟩) ?_; simp only [AP]))) ?_
            simp only [takesA, AP, pA]
            refine rdy1 16 (fun K hK => ?_)
            go_simp
            refine (HRV2.out _ ((Below.refl _ wr).drew)).mono ?_
            rintro e w5 ⟨F', R', hW5, hG5, hV5⟩
            have hb5 : ∀ b, OutB B Fs3 R3 ks n wr b → w5.heap[b]? = wr.heap[b]? := fun b hb => hG5.same.block b hb.2.1 (fun e => e.elim (hb.2.2.1 i hi) hb.2.2.2.1)
            have hS5 : w5.cell? ⟨cc, 3, none⟩ = some (.slice (some ⟨g, 0, none⟩) n cap) ∧ w5.cell? ⟨g, i, none⟩ = some (.pointer (some ⟨nbs i, 0, none⟩)) ∧ w5.cell? ⟨cc, 4, none⟩ = some (.slice (some ⟨sb, 0, none⟩) said.length sc) ∧ w5.cell? ⟨sb, fk, none⟩ = some (.string fr) := ⟨(World.cell?_of_block (w := wr) (a := ⟨cc, 3, none⟩) (hb5 cc HO3.out.occ)).trans C33.out, (World.cell?_of_block (w := wr) (a := ⟨g, i, none⟩) (hb5 g HOG.out)).trans CK.out, (World.cell?_of_block (w := wr) (a := ⟨cc, 4, none⟩) (hb5 cc HO3.out.occ)).trans C43.out, (World.cell?_of_block (w := wr) (a := ⟨sb, fk, none⟩) (hb5 sb HOSB.out)).trans CSB.out⟩
            obtain ⟨ev, rfl⟩ := recv_ret hV5
            refine hK.out _ _ (hS5) (fun hHeld => ?_)
            clear hK K
            try simp only [AP, AQ]
            refine wpAnyH_done (by kernel_rfl) ?_ _
            obtain ⟨hg5, hb6⟩ := CityG.turn HL3.out HO3.out HAB3.out HQ3.out hi hW5 hG5 ((HO3.out.city.ok i hi).receive) (Nat.le_refl T) (sgo_receive (st2 i) n i fr)
            have HG5 := hide hg5
            have HB5 : Hid (Below B w w5) := HBW3.out.trans hb6
            clear hW5 hG5 hg5 hb6 hS5 hb5 hHeld hV5 HRV2
            go_wp2
            go_roundw
            case rel => exact ⟨i + 1, _, by omega, by go_num, Moves.more _ _ _ HMV2.out (Move.recv st2 said i fr hi HFM.out), HG5.out, HB5.out⟩
            case measure => simp [intOf]; omega
      · have hfki : ¬ (fk : Int) < said.length := by omega
        have HMV9 := hide HMV1.out
        have HE9 := hide (HGO.out.e.mono (show T ≤ T + n by omega) (Nat.le_refl M))
        have HB9 := hide HBO.out
        have HHE := hide (hears_any HE9.out hn hM)
        go_wp2_with fail
        refine HHE.out.mono ?_
        rintro e w9 ⟨rfl, st2, said2, hmv2, hE2, hb2, ho2⟩
        have HEND : Hid (∃ st' said', Moves n (st, said) (st', said') ∧ CityE B es m rb n cc (T + n) (M + 100 * n) st' said' w9 ∧ Below B w w9 ∧ ∀ j, j < n → (st' j).out = []) := ⟨st2, said2, HMV9.out.trans hmv2, hE2, HB9.out.trans hb2, ho2⟩
        clear hmv2 hE2 hb2 ho2 HHE
        go_wp2
        first | exact bodyPost_end (v := .tuple #[]) (by simp [results, Tryz.results28]) rfl ⟨rfl, HEND.out⟩ | exact bodyPost_ret (v := .tuple #[]) (by simp [results, Tryz.results28]) rfl ⟨rfl, HEND.out⟩
    · have hkqi : ¬ (k : Int) ≤ q := by omega
      have HMV9 := hide HMV1.out
      have HE9 := hide (HGO.out.e.mono (show T ≤ T + n by omega) (Nat.le_refl M))
      have HB9 := hide HBO.out
      have HHE := hide (hears_any HE9.out hn hM)
      go_wp2_with fail
      refine HHE.out.mono ?_
      rintro e w9 ⟨rfl, st2, said2, hmv2, hE2, hb2, ho2⟩
      have HEND : Hid (∃ st' said', Moves n (st, said) (st', said') ∧ CityE B es m rb n cc (T + n) (M + 100 * n) st' said' w9 ∧ Below B w w9 ∧ ∀ j, j < n → (st' j).out = []) := ⟨st2, said2, HMV9.out.trans hmv2, hE2, HB9.out.trans hb2, ho2⟩
      clear hmv2 hE2 hb2 ho2 HHE
      go_wp2
      first | exact bodyPost_end (v := .tuple #[]) (by simp [results, Tryz.results28]) rfl ⟨rfl, HEND.out⟩ | exact bodyPost_ret (v := .tuple #[]) (by simp [results, Tryz.results28]) rfl ⟨rfl, HEND.out⟩

set_option linter.unusedSimpArgs false in
set_option linter.unusedVariables false in
set_option maxRecDepth 100000 in
set_option maxHeartbeats 25600000 in
theorem happens_lie {B : Nat} {es : List Addr} {m : Int} {rb n cc T M : Nat} {st : Nat → NodeS} {said : List ByteArray} (a : ActV) {w : World} (h : CityE B es m rb n cc T M st said w) (ha : ActOk a) (hk : pickN a.k 11 = 8 ∨ pickN a.k 11 = 9) (hn : n ≤ 8) (hM : M + 100 * n ≤ 4000000000000) (hT : T + n ≤ 1000000000000) :
 Calls Tryz.prog 28 #[.pointer (some ⟨cc, 0, none⟩), .agg a.cells] w fun e w' => e = .returned (.tuple #[]) ∧ ∃ st' said', Moves n (st, said) (st', said') ∧ CityE B es m rb n cc (T + n) (M + 100 * n) st' said' w' ∧ Below B w w' ∧ ∀ j, j < n → (st' j).out = [] := by
 obtain ⟨ak, at1, af, ac, ⟨mk, mh, mr, mf, mv, mn, ms⟩, rec⟩ := a
 obtain ⟨hlen, Fs, R, nbs, ks, cbs, gv, kv, nv, sv, hO⟩ := h
 obtain ⟨g, cap, rfl, hmax, hgc, hnp⟩ := hO.nodeAt
 have hnpos := hO.npos
 obtain ⟨tj, htj⟩ : ∃ z, z = pickN at1 n := ⟨_, rfl⟩
 have htn : tj < n := by rw [htj]; exact pickN_lt hO.npos
 have htni : (tj : Int) < n := by omega
 show Calls Tryz.prog 28 #[.pointer (some ⟨cc, 0, none⟩), .agg #[.int .i64 ak, .int .i64 at1, .int .i64 af, .int .i64 ac, .int .i64 mk, .int .i64 mh, .int .i64 mr, .int .i64 mf, .int .i64 mv, .bool mn, .string ms, .string rec]] w _
 obtain ⟨w1, hw1⟩ : ∃ z, z = w.alloc (.cells #[.int .i64 ak, .int .i64 at1, .int .i64 af, .int .i64 ac, .int .i64 mk, .int .i64 mh, .int .i64 mr, .int .i64 mf, .int .i64 mv, .bool mn, .string ms, .string rec] 81) := ⟨_, rfl⟩
 have hb1 : Below w.heap.size w w1 := by rw [hw1]; exact (Below.refl _ w).alloc (Nat.le_refl _) _
 have hq1 : w1.heap[w.heap.size]? = some (.cells #[.int .i64 ak, .int .i64 at1, .int .i64 af, .int .i64 ac, .int .i64 mk, .int .i64 mh, .int .i64 mr, .int .i64 mf, .int .i64 mv, .bool mn, .string ms, .string rec] 81 (0, 0)) := by rw [hw1]; exact heap_alloc_new w _
 have C3 : Hid (w1.cell? ⟨cc, 3, none⟩ = some (.slice (some ⟨g, 0, none⟩) n cap)) := cell_of_row w1 cc 3 _ _ _ (blk hO.blk hb1)
 have CTJ : Hid (w1.cell? ⟨g, tj, none⟩ = some (.pointer (some ⟨nbs tj, 0, none⟩))) := (hO.below hb1).nodeCell tj htn
 have CA1 : Hid (w1.cell? ⟨w.heap.size, 1, none⟩ = some (.int .i64 at1)) := cell_of_row w1 w.heap.size 1 _ _ _ hq1
 have CA0 : Hid (w1.cell? ⟨w.heap.size, 0, none⟩ = some (.int .i64 ak)) := cell_of_row w1 w.heap.size 0 _ _ _ hq1
 have HPT : Hid (∀ W, Calls Tryz.prog 26 #[.int .i64 at1, .int .i64 (n : Int)] W fun e w' => e = .returned (.int .i64 (tj : Int)) ∧ w' = W) := fun W => by rw [htj]; exact pick_at at1 n W ha.t.1 ha.t.2 hnpos (by omega)
 have HPK : Hid (∀ W, Calls Tryz.prog 26 #[.int .i64 ak, .int .i64 11] W fun e w' => e = .returned (.int .i64 (pickN ak 11 : Int)) ∧ w' = W) := fun W => pick_at ak 11 W ha.k.1 ha.k.2 (by omega) (by omega)
 have HG1 : Hid (CityG B es m nbs ks gv kv (.slice (some ⟨g, 0, none⟩) n cap) rb n cc T M w.heap.size #[.int .i64 ak, .int .i64 at1, .int .i64 af, .int .i64 ac, .int .i64 mk, .int .i64 mh, .int .i64 mr, .int .i64 mf, .int .i64 mv, .bool mn, .string ms, .string rec] 81 st said w1) := CityG.of hO hlen hb1 (Nat.le_refl _) hq1
 have HBL : Hid (B ≤ w.heap.size) := hO.bl
 have HB1 := hide hb1
 have HW1 := hide hw1
 have HAO := hide ha
 obtain ⟨ab, hab⟩ : ∃ z, z = w.heap.size := ⟨_, rfl⟩
 have HGC := hide hgc
 clear hO hnp htj hb1 hq1 hw1 ha hlen
 go_enter Tryz.func28, Tryz.ntmps28
 go_upto_region 1 with fail
 rw [← HW1.out]
 refine wp_region_held_drew (S := fun X => Below w1.heap.size w1 X) (by kernel_rfl) ((Below.refl _ w1).drew) (fun hHeld => ?_)
 refine takeN [(0, some 14, pA cc 0), (1, some 15, pA cc 0), (2, some 16, pA cc 3), (3, some 17, .slice (some ⟨g, 0, none⟩) n cap), (4, some 18, pA w.heap.size 1), (5, some 19, .int .i64 at1), (6, some 20, pA cc 0), (7, some 21, pA cc 0), (8, some 22, pA cc 3), (9, some 23, .slice (some ⟨g, 0, none⟩) n cap), (10, some 24, .int .i64 (n : Int))] _ _ hHeld (by repeat (first | exact True.intro | (refine tkc rfl rfl (Or.inl ⟨by rfl, fun x h => by have f0 : x.cell? ⟨cc, 3, none⟩ = some (.slice (some ⟨g, 0, none⟩) n cap) := Ext.cell C3.out (Ext.of h); have f1 : x.cell? ⟨w.heap.size, 1, none⟩ = some (.int .i64 at1) := Ext.cell CA1.out (Ext.of h); go_simp⟩) ?_; simp only [AP]))) ?_
 simp only [takesA, AP, pA]
 refine rdy1 11 (fun K hK => ?_)
 go_simp
 refine (HPT.out _).mono ?_
 rintro en X2 ⟨rfl, rfl⟩
 refine hK.out _ _ (hHeld) (fun hHeld => ?_)
 clear hK K
 try simp only [AP, AQ]
 refine takeN [(12, some 26, pA g tj), (13, some 27, pA (nbs tj) 0), (14, some 4, pA (nbs tj) 0)] _ _ hHeld (by repeat (first | exact True.intro | (refine tkc rfl rfl (Or.inl ⟨by rfl, fun x h => by have f0 : x.cell? ⟨g, tj, none⟩ = some (.pointer (some ⟨nbs tj, 0, none⟩)) := Ext.cell CTJ.out (Ext.of h); go_simp⟩) ?_; simp only [AP]))) ?_
 simp only [takesA, AP, pA]
 refine wpAnyH_done (by kernel_rfl) ?_ _
 obtain ⟨w2, hw2⟩ : ∃ z, z = w1.drew := ⟨_, rfl⟩
 have HB2 : Hid (Below w1.heap.size w1 w2) := by rw [hw2]; exact (Below.refl _ w1).drew
 rw [← hw2]
 have HG2 := hide (HG1.out.below HB2.out)
 have HBW2 : Hid (Below B w w2) := (HB1.out.mono HBL.out).trans ((HB2.out.mono (Nat.le_trans HBL.out HB1.out.size)))
 have c02 : w2.cell? ⟨w.heap.size, 0, none⟩ = some (.int .i64 ak) := Ext.cell CA0.out (Ext.of HB2.out)
 clear hHeld hw2 CTJ CA1 HG1 HPT
 rw [← hab] at HG2 c02
 have HAB := hide hab
 try rw [← HAB.out]
 clear hab
 go_upto_region 2 with fail
 go_wp2_with fail
 refine (HPK.out _).mono ?_
 rintro en X ⟨rfl, hX⟩
 have hX2 := hX.symm
 clear hX
 subst hX2
 rcases hk with hk | hk
 all_goals
  rw [hk]
  obtain ⟨hlen2, Fs2, R2, cbs2, sv2, hO2, hab2, hq2⟩ := HG2.out
  have HRM := hide (act_msg hq2)
  have HO2 := hide hO2
  have HAB2 := hide hab2
  have HQ2 := hide hq2
  have HL2 := hide hlen2
  obtain ⟨a1, he1⟩ := (hO2.city.node 0 hnpos).glob.sent.at 1 (by omega)
  have HE1 := hide he1
  clear hO2 hab2 hq2 hlen2 HPK he1
  obtain ⟨pj, hpj⟩ : ∃ z, z = pickN mf n := ⟨_, rfl⟩
  have hpn : pj < n := by rw [hpj]; exact pickN_lt hnpos
  have hpni : (pj : Int) < n := by omega
  have HPM : Hid (∀ W, Calls Tryz.prog 26 #[.int .i64 mf, .int .i64 (n : Int)] W fun e w' => e = .returned (.int .i64 (pj : Int)) ∧ w' = W) := fun W => by rw [hpj]; exact pick_at mf n W HAO.out.mf.1 HAO.out.mf.2 hnpos (by omega)
  clear hpj
  go_upto_region 45 with (first | (refine wpList_load_mid rfl 57 _ rfl ab 4 rfl [.int .i64 mk, .int .i64 mh, .int .i64 mr, .int .i64 mf, .int .i64 mv, .bool mn, .string ms] _ HRM.out Tryz.underlying57 rfl (by rw [Tryz.sizeMsgR]; rfl) ?_) | (refine wpList_store_new rfl 57 _ _ rfl w2 #[.int .i64 mk, .int .i64 mh, .int .i64 mr, .int .i64 mf, .int .i64 mv, .bool mn, .string ms] rfl rfl 57 _ rfl (by simp [Value.oneCell']) Tryz.sizeMsgR ?_; intro w3 hq3 hb3 hz3; have HQ3a := hide hq3; have HB3 := hide hb3; clear hq3 hb3 hz3) | fail)
  obtain ⟨bx, hbx⟩ : ∃ z, z = w2.heap.size := ⟨_, rfl⟩
  rw [← hbx]
  have HQ3 : Hid (w3.heap[bx]? = some (.cells #[.int .i64 mk, .int .i64 mh, .int .i64 mr, .int .i64 mf, .int .i64 mv, .bool mn, .string ms] 57 (0, 0))) := by rw [hbx]; exact HQ3a.out
  have CF : Hid (w3.cell? ⟨bx, 3, none⟩ = some (.int .i64 mf)) := cell_of_row w3 bx 3 _ _ _ HQ3.out
  have FF : Hid (w3.frozen? ⟨bx, 3, none⟩ = false) := frozen_row HQ3.out 3
  have HCB : Hid (cc ≠ bx) := fun e => by have := HO2.out.occ.2.1; omega
  have C33 : Hid (w3.cell? ⟨cc, 3, none⟩ = some (.slice (some ⟨g, 0, none⟩) n cap)) := cell_of_row w3 cc 3 _ _ _ (blk HO2.out.blk HB3.out)
  have HBX : Hid (w2.heap.size ≤ bx) := by rw [hbx]; exact Nat.le_refl _
  clear hbx HQ3a
  refine wp_region_held_drew (S := fun X => X.cell? ⟨cc, 3, none⟩ = some (.slice (some ⟨g, 0, none⟩) n cap)) (by kernel_rfl) C33.out (fun hHeld => ?_)
  refine takeN [(0, some 216, pA bx 3), (2, some 218, pA cc 0), (3, some 219, pA cc 0), (4, some 220, pA cc 3), (5, some 221, .slice (some ⟨g, 0, none⟩) n cap), (6, some 222, .int .i64 (n : Int))] _ _ hHeld (by repeat (first | exact True.intro | (refine tkc rfl rfl (Or.inl ⟨by rfl, fun x h => by have f0 : x.cell? ⟨cc, 3, none⟩ = some (.slice (some ⟨g, 0, none⟩) n cap) := h; go_simp⟩) ?_; simp only [AP]))) ?_
  simp only [takesA, AP, pA]
  have c3d : w3.drew.cell? ⟨bx, 3, none⟩ = some (.int .i64 mf) := CF.out
  refine rdy1 1 (fun K hK => ?_)
  go_simp
  refine hK.out _ _ hHeld (fun hHeld => ?_)
  clear hK K
  try simp only [AP, AQ]
  refine rdy1 7 (fun K hK => ?_)
  go_simp
  refine (HPM.out _).mono ?_
  rintro en X2 ⟨rfl, rfl⟩
  refine hK.out _ _ (hHeld) (fun hHeld => ?_)
  clear hK K
  try simp only [AP, AQ]
  refine takeM [(8, some 224, pA bx 3)] _ _ hHeld ?_
  simp only [takesA, AP, pA]
  have f3d : w3.drew.frozen? ⟨bx, 3, none⟩ = false := FF.out
  refine rdy1 9 (fun K hK => ?_)
  go_simp
  obtain ⟨w4, hw4⟩ : ∃ z, z = w3.drew.setCell ⟨bx, 3, none⟩ (.int .i64 (pj : Int)) := ⟨_, rfl⟩
  have ho4 : Only bx w3.drew w4 := by rw [hw4]; exact only_setCell _ bx 3 _
  have hq4 : w4.heap[bx]? = some (.cells #[.int .i64 mk, .int .i64 mh, .int .i64 mr, .int .i64 (pj : Int), .int .i64 mv, .bool mn, .string ms] 57 (0, 0)) := by
   rw [hw4]
   exact setCell_row (w := w3.drew) HQ3.out 3 _
  rw [show (w3.setCell ⟨bx, 3, none⟩ (.int .i64 (pj : Int))).drew = w3.drew.setCell ⟨bx, 3, none⟩ (.int .i64 (pj : Int)) from rfl, ← hw4]
  clear hw4
  refine hK.out _ _ ((ho4.cell (p := ⟨cc, 3, none⟩) (fun e => HCB.out e)).trans hHeld) (fun hHeld => ?_)
  clear hK K
  try simp only [AP, AQ]
  refine wpAnyH_done (by kernel_rfl) ?_ _
  have HB4 : Hid (Below w2.heap.size w2 w4) := (HB3.out.drew).trans (ho4.below HBX.out)
  have HQ4 := hide hq4
  have HO4 := hide (HO2.out.below HB4.out)
  have CF4 : Hid (w4.cell? ⟨bx, 3, none⟩ = some (.int .i64 (pj : Int))) := cell_of_row w4 bx 3 _ _ _ hq4
  have HFR := hide (keepFrame_any mk mh mr (pj : Int) mv mn ms a1 w4 (by have h9 : ms.size ≤ 4000000000000 := HAO.out.ms; unfold maxLen; omega) ((HO4.out.city.node 0 hnpos).glob.sent.cell 1 _ _ rfl HE1.out))
  clear hq4 ho4 hHeld
  go_upto_region 46 with fail
  go_wp2_with (first | (refine wpList_load_row rfl 57 _ rfl bx rfl 57 #[.int .i64 mk, .int .i64 mh, .int .i64 mr, .int .i64 (pj : Int), .int .i64 mv, .bool mn, .string ms] (0, 0) _ HQ4.out Tryz.underlying57 rfl (by rw [Tryz.sizeMsgR]; rfl) ?_) | fail)
  refine HFR.out.mono ?_
  rintro e w5 ⟨rfl, hb5⟩
  have HB5 : Hid (Below w2.heap.size w2 w5) := HB4.out.trans (hb5.mono HB4.out.size)
  have CF5 : Hid (w5.cell? ⟨bx, 3, none⟩ = some (.int .i64 (pj : Int))) := Ext.cell CF4.out (Ext.of hb5)
  have C35 : Hid (w5.cell? ⟨cc, 3, none⟩ = some (.slice (some ⟨g, 0, none⟩) n cap)) := cell_of_row w5 cc 3 _ _ _ (blk HO2.out.blk HB5.out)
  have CP5 : Hid (w5.cell? ⟨g, pj, none⟩ = some (.pointer (some ⟨nbs pj, 0, none⟩))) := (HO2.out.below HB5.out).nodeCell pj hpn
  clear hb5 HFR
  go_upto_region 47 with fail
  refine wp_region_held_drew (S := fun X => Below w5.heap.size w5 X) (by kernel_rfl) ((Below.refl _ w5).drew) (fun hHeld => ?_)
  refine takeN [(0, some 227, pA cc 0), (1, some 228, pA cc 0), (2, some 229, pA cc 3), (3, some 230, .slice (some ⟨g, 0, none⟩) n cap), (4, some 231, pA bx 3), (5, some 232, .int .i64 (pj : Int)), (6, some 233, pA g pj), (7, some 234, pA (nbs pj) 0), (8, some 235, .bool false), (9, some 236, .bool false), (10, some 237, undef), (11, some 238, undef), (12, some 239, .bool false)] _ _ hHeld (by repeat (first | exact True.intro | ((first | (refine tkc rfl rfl (Or.inl ⟨by rfl, fun x h => ?_⟩) ?_; focus (have f0 : x.cell? ⟨cc, 3, none⟩ = some (.slice (some ⟨g, 0, none⟩) n cap) := Ext.cell C35.out (Ext.of h); have f1 : x.cell? ⟨bx, 3, none⟩ = some (.int .i64 (pj : Int)) := Ext.cell CF5.out (Ext.of h); have f2 : x.cell? ⟨g, pj, none⟩ = some (.pointer (some ⟨nbs pj, 0, none⟩)) := Ext.cell CP5.out (Ext.of h); go_simp; done)) | refine tkc rfl rfl (Or.inr ⟨by rfl, rfl⟩) ?_); simp only [AP]))) ?_
  simp only [takesA, AP, pA]
  refine wpAnyH_done (by kernel_rfl) ?_ _
  have HB6 : Hid (Below w2.heap.size w2 w5.drew) := HB5.out.drew
  have HMV9 : Hid (Moves n (st, said) (st, said)) := Moves.refl _
  have HE9 := hide ((HG2.out.below HB6.out).e.mono (show T ≤ T + n by omega) (Nat.le_refl M))
  have HB9 : Hid (Below B w w5.drew) := HBW2.out.trans (HB6.out.mono (Below.bl2 HBW2.out HBL.out))
  clear hHeld
  have HHE := hide (hears_any HE9.out hn hM)
  go_wp2_with fail
  refine HHE.out.mono ?_
  rintro e w9 ⟨rfl, st2, said2, hmv2, hE2, hb2, ho2⟩
  have HEND : Hid (∃ st' said', Moves n (st, said) (st', said') ∧ CityE B es m rb n cc (T + n) (M + 100 * n) st' said' w9 ∧ Below B w w9 ∧ ∀ j, j < n → (st' j).out = []) := ⟨st2, said2, HMV9.out.trans hmv2, hE2, HB9.out.trans hb2, ho2⟩
  clear hmv2 hE2 hb2 ho2 HHE
  go_wp2
  first | exact bodyPost_end (v := .tuple #[]) (by simp [results, Tryz.results28]) rfl ⟨rfl, HEND.out⟩ | exact bodyPost_ret (v := .tuple #[]) (by simp [results, Tryz.results28]) rfl ⟨rfl, HEND.out⟩

end Go.Proofs.YtcfjhbcpjpgodaaGreatDoor
