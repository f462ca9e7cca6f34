/- Proved here: small facts for acts. -/
import Derived.Test.YtcfjhbcpjpgodaaGreatDoorJ35
import Derived.Test.YtcfjhbcpjpgodaaGreatDoorJ38
import Derived.Laws.Closers25
import Derived.LaidEqlPtr
import Derived.Test.YtcfjhbcpjpgodaaGreatDoorJ39
import Derived.Test.YtcfjhbcpjpgodaaGreatDoorJ40
import Derived.Test.YtcfjhbcpjpgodaaGreatDoorJ46
import Derived.Deep.DeepCutAuto
import Derived.Test.YtcfjhbcpjpgodaaGreatDoorTakeL
namespace Go.Proofs.YtcfjhbcpjpgodaaGreatDoor
open Go.RowKit

theorem act_msg {w : World} {ab : Nat} {ak at1 af ac mk mh mr mf mv : Int} {mn : Bool} {ms rec : ByteArray} {t : TypeId} (h : w.heap[ab]? = some (.cells #[.int .i64 ak, .int .i64 at1, .int .i64 af, .int .i64 ac, .int .i64 mk, .int .i64 mh, .int .i64 mr, .int .i64 mf, .int .i64 mv, .bool mn, .string ms, .string rec] t (0, 0))) : w.rangeAt ab 4 [.int .i64 mk, .int .i64 mh, .int .i64 mr, .int .i64 mf, .int .i64 mv, .bool mn, .string ms] := fun j v hv => by
 match j, hv with
 | 0, hv => simp at hv; subst hv; exact cell_of_row w ab 4 _ _ _ h
 | 1, hv => simp at hv; subst hv; exact cell_of_row w ab 5 _ _ _ h
 | 2, hv => simp at hv; subst hv; exact cell_of_row w ab 6 _ _ _ h
 | 3, hv => simp at hv; subst hv; exact cell_of_row w ab 7 _ _ _ h
 | 4, hv => simp at hv; subst hv; exact cell_of_row w ab 8 _ _ _ h
 | 5, hv => simp at hv; subst hv; exact cell_of_row w ab 9 _ _ _ h
 | 6, hv => simp at hv; subst hv; exact cell_of_row w ab 10 _ _ _ h
 | j + 7, hv => simp at hv

theorem recv_ret {es : List Addr} {o : Option (Int × Nat)} {w w' : World} {F R : Nat → Prop} {e : Ending} (h : RecvV es o w F R e w') : ∃ v, e = .returned v := by
 unfold RecvV at h
 split at h
 · exact ⟨_, h⟩
 · obtain ⟨g, a, h1, _⟩ := h
   exact ⟨_, h1⟩

theorem recv_from {B : Nat} {es : List Addr} {m : Int} {Fs : Nat → Nat → Prop} {R : Nat → Prop} {nbs ks cbs : Nat → Nat} {rb n T cc : Nat} {gv kv nv sv : Value} {st : Nat → NodeS} {said : List ByteArray} {w W : World} (h : CityO B es m Fs R nbs ks cbs rb n T cc gv kv nv sv st said w) (i : Nat) (hi : i < n) (fr : ByteArray) (hW : Below w.heap.size w W) (hT : T ≤ 1000000000000) :
 Calls Tryz.prog 29 #[.pointer (some ⟨nbs i, 0, none⟩), .string fr] W (RecvP B es m (Fs i) R (nbs i) (ks i) rb (cbs i) n i (st i) fr w) := by
 refine (receive_any fr ((h.below hW).city.node i hi) (h.below hW).city.globR (h.city.ok i hi) hT (by omega)).mono ?_
 rintro e w' ⟨F', R', h1, h2, h3⟩
 refine ⟨F', R', h1, (Goes.below hW).trans h2, ?_⟩
 unfold RecvV at h3 ⊢
 split at h3
 · exact h3
 · obtain ⟨g, a, e1, e2, e3, e4⟩ := h3
   exact ⟨g, a, e1, e2, Nat.le_trans hW.size e3, e4⟩
theorem Tryz.sizeNodeP : (Tryz.prog.info? 135).map (·.size) = some 54 := by kernel_rfl
theorem nodeEq_same {a b : Nat} (h : a = b) (w : World) : (binOp .eql 26 (.pointer (some ⟨a, 0, none⟩)) (.pointer (some ⟨b, 0, none⟩))).run Tryz.prog w = .ok (.bool true) w := by
 subst h
 obtain ⟨j, hj, hjs⟩ := Option.map_eq_some_iff.1 Tryz.sizeNodeP
 exact run_eql_ptr_same (P := Tryz.prog) w ⟨a, 0, none⟩ Tryz.underlying26 hj
theorem nodeEq_other {a b : Nat} {C D : Array Value} {t u : TypeId} {w : World} (h : a ≠ b) (ha : w.heap[a]? = some (.cells C t (0, 0))) (hb : w.heap[b]? = some (.cells D u (0, 0))) : (binOp .eql 26 (.pointer (some ⟨a, 0, none⟩)) (.pointer (some ⟨b, 0, none⟩))).run Tryz.prog w = .ok (.bool false) w := by
 obtain ⟨j, hj, hjs⟩ := Option.map_eq_some_iff.1 Tryz.sizeNodeP
 exact run_eql_ptr_other (P := Tryz.prog) w Tryz.underlying26 hj (by rw [hjs]; decide) (fun e => h (congrArg Addr.block e)) ha hb
theorem NodeW.blkE {B : Nat} {es : List Addr} {m : Int} {F R : Nat → Prop} {nb kb rb cb n i : Nat} {s : NodeS} {w : World} (h : NodeW B es m F R nb kb rb cb n i s w) : ∃ C, w.heap[nb]? = some (.cells C 135 (0, 0)) := by
 obtain ⟨V, hA, _⟩ := h.node
 exact ⟨_, hA.blk⟩
theorem wrap_any (x : Int) (h0 : -9223372036854775808 ≤ x) (h1 : x ≤ 9223372036854775807) : IntKind.i64.wrap x = x := by
 have h := wrap_i64_ediv x 1 h0 h1 (by omega)
 rw [Int.ediv_one] at h
 exact h
theorem Below.bl2 {B : Nat} {w w' : World} (h : Below B w w') (hB : B ≤ w.heap.size) : B ≤ w'.heap.size := Nat.le_trans hB h.size

set_option linter.unusedSimpArgs false in
set_option linter.unusedVariables false in
set_option maxRecDepth 100000 in
set_option maxHeartbeats 25600000 in
theorem happens_tick1 {B : Nat} {es : List Addr} {m : Int} {rb n cc T M : Nat} {st : Nat → NodeS} {said : List ByteArray} (a : ActV) {w : World} (h : CityE B es m rb n cc T M st said w) (ha : ActOk a) (hk5 : pickN a.k 11 = 5) (hn : n ≤ 8) (hM : M + 100 * n ≤ 4000000000000) (hT : T + n ≤ 1000000000000) :
 Calls Tryz.prog 28 #[.pointer (some ⟨cc, 0, none⟩), .agg a.cells] w fun e w' => e = .returned (.tuple #[]) ∧ ∃ st' said', Moves n (st, said) (st', said') ∧ CityE B es m rb n cc (T + n) (M + 100 * n) st' said' w' ∧ Below B w w' ∧ ∀ j, j < n → (st' j).out = [] := by
 obtain ⟨ak, at1, af, ac, ⟨mk, mh, mr, mf, mv, mn, ms⟩, rec⟩ := a
 obtain ⟨hlen, Fs, R, nbs, ks, cbs, gv, kv, nv, sv, hO⟩ := h
 obtain ⟨g, cap, rfl, hmax, hgc, hnp⟩ := hO.nodeAt
 have hnpos := hO.npos
 obtain ⟨tj, htj⟩ : ∃ z, z = pickN at1 n := ⟨_, rfl⟩
 have htn : tj < n := by rw [htj]; exact pickN_lt hO.npos
 have htni : (tj : Int) < n := by omega
 show Calls Tryz.prog 28 #[.pointer (some ⟨cc, 0, none⟩), .agg #[.int .i64 ak, .int .i64 at1, .int .i64 af, .int .i64 ac, .int .i64 mk, .int .i64 mh, .int .i64 mr, .int .i64 mf, .int .i64 mv, .bool mn, .string ms, .string rec]] w _
 obtain ⟨w1, hw1⟩ : ∃ z, z = w.alloc (.cells #[.int .i64 ak, .int .i64 at1, .int .i64 af, .int .i64 ac, .int .i64 mk, .int .i64 mh, .int .i64 mr, .int .i64 mf, .int .i64 mv, .bool mn, .string ms, .string rec] 81) := ⟨_, rfl⟩
 have hb1 : Below w.heap.size w w1 := by rw [hw1]; exact (Below.refl _ w).alloc (Nat.le_refl _) _
 have hq1 : w1.heap[w.heap.size]? = some (.cells #[.int .i64 ak, .int .i64 at1, .int .i64 af, .int .i64 ac, .int .i64 mk, .int .i64 mh, .int .i64 mr, .int .i64 mf, .int .i64 mv, .bool mn, .string ms, .string rec] 81 (0, 0)) := by rw [hw1]; exact heap_alloc_new w _
 have C3 : Hid (w1.cell? ⟨cc, 3, none⟩ = some (.slice (some ⟨g, 0, none⟩) n cap)) := cell_of_row w1 cc 3 _ _ _ (blk hO.blk hb1)
 have CTJ : Hid (w1.cell? ⟨g, tj, none⟩ = some (.pointer (some ⟨nbs tj, 0, none⟩))) := (hO.below hb1).nodeCell tj htn
 have CA1 : Hid (w1.cell? ⟨w.heap.size, 1, none⟩ = some (.int .i64 at1)) := cell_of_row w1 w.heap.size 1 _ _ _ hq1
 have CA0 : Hid (w1.cell? ⟨w.heap.size, 0, none⟩ = some (.int .i64 ak)) := cell_of_row w1 w.heap.size 0 _ _ _ hq1
 have HPT : Hid (∀ W, Calls Tryz.prog 26 #[.int .i64 at1, .int .i64 (n : Int)] W fun e w' => e = .returned (.int .i64 (tj : Int)) ∧ w' = W) := fun W => by rw [htj]; exact pick_at at1 n W ha.t.1 ha.t.2 hnpos (by omega)
 have HPK : Hid (∀ W, Calls Tryz.prog 26 #[.int .i64 ak, .int .i64 11] W fun e w' => e = .returned (.int .i64 (pickN ak 11 : Int)) ∧ w' = W) := fun W => pick_at ak 11 W ha.k.1 ha.k.2 (by omega) (by omega)
 have HG1 : Hid (CityG B es m nbs ks gv kv (.slice (some ⟨g, 0, none⟩) n cap) rb n cc T M w.heap.size #[.int .i64 ak, .int .i64 at1, .int .i64 af, .int .i64 ac, .int .i64 mk, .int .i64 mh, .int .i64 mr, .int .i64 mf, .int .i64 mv, .bool mn, .string ms, .string rec] 81 st said w1) := CityG.of hO hlen hb1 (Nat.le_refl _) hq1
 have HBL : Hid (B ≤ w.heap.size) := hO.bl
 have HB1 := hide hb1
 have HW1 := hide hw1
 have HAO := hide ha
 obtain ⟨ab, hab⟩ : ∃ z, z = w.heap.size := ⟨_, rfl⟩
 have HGC := hide hgc
 clear hO hnp htj hb1 hq1 hw1 ha hlen
 go_enter Tryz.func28, Tryz.ntmps28
 go_upto_region 1 with fail
 rw [← HW1.out]
 refine wp_region_held_drew (S := fun X => Below w1.heap.size w1 X) (by kernel_rfl) ((Below.refl _ w1).drew) (fun hHeld => ?_)
 refine takeN [(0, some 14, pA cc 0), (1, some 15, pA cc 0), (2, some 16, pA cc 3), (3, some 17, .slice (some ⟨g, 0, none⟩) n cap), (4, some 18, pA w.heap.size 1), (5, some 19, .int .i64 at1), (6, some 20, pA cc 0), (7, some 21, pA cc 0), (8, some 22, pA cc 3), (9, some 23, .slice (some ⟨g, 0, none⟩) n cap), (10, some 24, .int .i64 (n : Int))] _ _ hHeld (by repeat (first | exact True.intro | (refine tkc rfl rfl (Or.inl ⟨by rfl, fun x h => by have f0 : x.cell? ⟨cc, 3, none⟩ = some (.slice (some ⟨g, 0, none⟩) n cap) := Ext.cell C3.out (Ext.of h); have f1 : x.cell? ⟨w.heap.size, 1, none⟩ = some (.int .i64 at1) := Ext.cell CA1.out (Ext.of h); go_simp⟩) ?_; simp only [AP]))) ?_
 simp only [takesA, AP, pA]
 refine rdy1 11 (fun K hK => ?_)
 go_simp
 refine (HPT.out _).mono ?_
 rintro en X2 ⟨rfl, rfl⟩
 refine hK.out _ _ (hHeld) (fun hHeld => ?_)
 clear hK K
 try simp only [AP, AQ]
 refine takeN [(12, some 26, pA g tj), (13, some 27, pA (nbs tj) 0), (14, some 4, pA (nbs tj) 0)] _ _ hHeld (by repeat (first | exact True.intro | (refine tkc rfl rfl (Or.inl ⟨by rfl, fun x h => by have f0 : x.cell? ⟨g, tj, none⟩ = some (.pointer (some ⟨nbs tj, 0, none⟩)) := Ext.cell CTJ.out (Ext.of h); go_simp⟩) ?_; simp only [AP]))) ?_
 simp only [takesA, AP, pA]
 refine wpAnyH_done (by kernel_rfl) ?_ _
 obtain ⟨w2, hw2⟩ : ∃ z, z = w1.drew := ⟨_, rfl⟩
 have HB2 : Hid (Below w1.heap.size w1 w2) := by rw [hw2]; exact (Below.refl _ w1).drew
 rw [← hw2]
 have HG2 := hide (HG1.out.below HB2.out)
 have HBW2 : Hid (Below B w w2) := (HB1.out.mono HBL.out).trans ((HB2.out.mono (Nat.le_trans HBL.out HB1.out.size)))
 have c02 : w2.cell? ⟨w.heap.size, 0, none⟩ = some (.int .i64 ak) := Ext.cell CA0.out (Ext.of HB2.out)
 clear hHeld hw2 CTJ CA1 HG1 HPT
 rw [← hab] at HG2 c02
 have HAB := hide hab
 try rw [← HAB.out]
 clear hab
 go_upto_region 2 with fail
 go_wp2_with fail
 refine (HPK.out _).mono ?_
 rintro en X ⟨rfl, hX⟩
 have hX2 := hX.symm
 clear hX
 subst hX2
 rw [hk5]
 obtain ⟨hlen2, Fs2, R2, cbs2, sv2, hO2, hab2, hq2⟩ := HG2.out
 have HTK := hide (tick_any (hO2.city.node tj htn) (hO2.city.ok tj htn) (by omega) (by omega))
 have HO2 := hide hO2
 have HAB2 := hide hab2
 have HQ2 := hide hq2
 have HL2 := hide hlen2
 clear hO2 hab2 hq2 hlen2 HPK
 go_wp2_with fail
 refine HTK.out.mono ?_
 rintro e w3 ⟨rfl, F', R', hW3, hG3⟩
 obtain ⟨hg3, hb3⟩ := CityG.turn HL2.out HO2.out HAB2.out HQ2.out htn hW3 hG3 ((HO2.out.city.ok tj htn).tick) (Nat.le_succ T) (sgo_tick (st tj) tj)
 have HMV9 : Hid (Moves n (st, said) (updS st tj ((st tj).tickS tj), said)) := Moves.more _ _ _ (Moves.refl _) (Move.tick st said tj htn)
 have HE9 := hide (hg3.e.mono (show T + 1 ≤ T + n by omega) (Nat.le_refl M))
 have HB9 : Hid (Below B w w3) := HBW2.out.trans hb3
 clear hW3 hG3 hg3 hb3 HTK
 have HHE := hide (hears_any HE9.out hn hM)
 go_wp2_with fail
 refine HHE.out.mono ?_
 rintro e w9 ⟨rfl, st2, said2, hmv2, hE2, hb2, ho2⟩
 have HEND : Hid (∃ st' said', Moves n (st, said) (st', said') ∧ CityE B es m rb n cc (T + n) (M + 100 * n) st' said' w9 ∧ Below B w w9 ∧ ∀ j, j < n → (st' j).out = []) := ⟨st2, said2, HMV9.out.trans hmv2, hE2, HB9.out.trans hb2, ho2⟩
 clear hmv2 hE2 hb2 ho2 HHE
 go_wp2
 first | exact bodyPost_end (v := .tuple #[]) (by simp [results, Tryz.results28]) rfl ⟨rfl, HEND.out⟩ | exact bodyPost_ret (v := .tuple #[]) (by simp [results, Tryz.results28]) rfl ⟨rfl, HEND.out⟩

set_option linter.unusedSimpArgs false in
set_option linter.unusedVariables false in
set_option maxRecDepth 100000 in
set_option maxHeartbeats 25600000 in
theorem happens_ticks {B : Nat} {es : List Addr} {m : Int} {rb n cc T M : Nat} {st : Nat → NodeS} {said : List ByteArray} (a : ActV) {w : World} (h : CityE B es m rb n cc T M st said w) (ha : ActOk a) (hk6 : pickN a.k 11 = 6) (hn : n ≤ 8) (hM : M + 100 * n ≤ 4000000000000) (hT : T + n ≤ 1000000000000) :
 Calls Tryz.prog 28 #[.pointer (some ⟨cc, 0, none⟩), .agg a.cells] w fun e w' => e = .returned (.tuple #[]) ∧ ∃ st' said', Moves n (st, said) (st', said') ∧ CityE B es m rb n cc (T + n) (M + 100 * n) st' said' w' ∧ Below B w w' ∧ ∀ j, j < n → (st' j).out = [] := by
 obtain ⟨ak, at1, af, ac, ⟨mk, mh, mr, mf, mv, mn, ms⟩, rec⟩ := a
 obtain ⟨hlen, Fs, R, nbs, ks, cbs, gv, kv, nv, sv, hO⟩ := h
 obtain ⟨g, cap, rfl, hmax, hgc, hnp⟩ := hO.nodeAt
 have hnpos := hO.npos
 obtain ⟨tj, htj⟩ : ∃ z, z = pickN at1 n := ⟨_, rfl⟩
 have htn : tj < n := by rw [htj]; exact pickN_lt hO.npos
 have htni : (tj : Int) < n := by omega
 show Calls Tryz.prog 28 #[.pointer (some ⟨cc, 0, none⟩), .agg #[.int .i64 ak, .int .i64 at1, .int .i64 af, .int .i64 ac, .int .i64 mk, .int .i64 mh, .int .i64 mr, .int .i64 mf, .int .i64 mv, .bool mn, .string ms, .string rec]] w _
 obtain ⟨w1, hw1⟩ : ∃ z, z = w.alloc (.cells #[.int .i64 ak, .int .i64 at1, .int .i64 af, .int .i64 ac, .int .i64 mk, .int .i64 mh, .int .i64 mr, .int .i64 mf, .int .i64 mv, .bool mn, .string ms, .string rec] 81) := ⟨_, rfl⟩
 have hb1 : Below w.heap.size w w1 := by rw [hw1]; exact (Below.refl _ w).alloc (Nat.le_refl _) _
 have hq1 : w1.heap[w.heap.size]? = some (.cells #[.int .i64 ak, .int .i64 at1, .int .i64 af, .int .i64 ac, .int .i64 mk, .int .i64 mh, .int .i64 mr, .int .i64 mf, .int .i64 mv, .bool mn, .string ms, .string rec] 81 (0, 0)) := by rw [hw1]; exact heap_alloc_new w _
 have C3 : Hid (w1.cell? ⟨cc, 3, none⟩ = some (.slice (some ⟨g, 0, none⟩) n cap)) := cell_of_row w1 cc 3 _ _ _ (blk hO.blk hb1)
 have CTJ : Hid (w1.cell? ⟨g, tj, none⟩ = some (.pointer (some ⟨nbs tj, 0, none⟩))) := (hO.below hb1).nodeCell tj htn
 have CA1 : Hid (w1.cell? ⟨w.heap.size, 1, none⟩ = some (.int .i64 at1)) := cell_of_row w1 w.heap.size 1 _ _ _ hq1
 have CA0 : Hid (w1.cell? ⟨w.heap.size, 0, none⟩ = some (.int .i64 ak)) := cell_of_row w1 w.heap.size 0 _ _ _ hq1
 have HPT : Hid (∀ W, Calls Tryz.prog 26 #[.int .i64 at1, .int .i64 (n : Int)] W fun e w' => e = .returned (.int .i64 (tj : Int)) ∧ w' = W) := fun W => by rw [htj]; exact pick_at at1 n W ha.t.1 ha.t.2 hnpos (by omega)
 have HPK : Hid (∀ W, Calls Tryz.prog 26 #[.int .i64 ak, .int .i64 11] W fun e w' => e = .returned (.int .i64 (pickN ak 11 : Int)) ∧ w' = W) := fun W => pick_at ak 11 W ha.k.1 ha.k.2 (by omega) (by omega)
 have HG1 : Hid (CityG B es m nbs ks gv kv (.slice (some ⟨g, 0, none⟩) n cap) rb n cc T M w.heap.size #[.int .i64 ak, .int .i64 at1, .int .i64 af, .int .i64 ac, .int .i64 mk, .int .i64 mh, .int .i64 mr, .int .i64 mf, .int .i64 mv, .bool mn, .string ms, .string rec] 81 st said w1) := CityG.of hO hlen hb1 (Nat.le_refl _) hq1
 have HBL : Hid (B ≤ w.heap.size) := hO.bl
 have HB1 := hide hb1
 have HW1 := hide hw1
 have HAO := hide ha
 obtain ⟨ab, hab⟩ : ∃ z, z = w.heap.size := ⟨_, rfl⟩
 have HGC := hide hgc
 clear hO hnp htj hb1 hq1 hw1 ha hlen
 go_enter Tryz.func28, Tryz.ntmps28
 go_upto_region 1 with fail
 rw [← HW1.out]
 refine wp_region_held_drew (S := fun X => Below w1.heap.size w1 X) (by kernel_rfl) ((Below.refl _ w1).drew) (fun hHeld => ?_)
 refine takeN [(0, some 14, pA cc 0), (1, some 15, pA cc 0), (2, some 16, pA cc 3), (3, some 17, .slice (some ⟨g, 0, none⟩) n cap), (4, some 18, pA w.heap.size 1), (5, some 19, .int .i64 at1), (6, some 20, pA cc 0), (7, some 21, pA cc 0), (8, some 22, pA cc 3), (9, some 23, .slice (some ⟨g, 0, none⟩) n cap), (10, some 24, .int .i64 (n : Int))] _ _ hHeld (by repeat (first | exact True.intro | (refine tkc rfl rfl (Or.inl ⟨by rfl, fun x h => by have f0 : x.cell? ⟨cc, 3, none⟩ = some (.slice (some ⟨g, 0, none⟩) n cap) := Ext.cell C3.out (Ext.of h); have f1 : x.cell? ⟨w.heap.size, 1, none⟩ = some (.int .i64 at1) := Ext.cell CA1.out (Ext.of h); go_simp⟩) ?_; simp only [AP]))) ?_
 simp only [takesA, AP, pA]
 refine rdy1 11 (fun K hK => ?_)
 go_simp
 refine (HPT.out _).mono ?_
 rintro en X2 ⟨rfl, rfl⟩
 refine hK.out _ _ (hHeld) (fun hHeld => ?_)
 clear hK K
 try simp only [AP, AQ]
 refine takeN [(12, some 26, pA g tj), (13, some 27, pA (nbs tj) 0), (14, some 4, pA (nbs tj) 0)] _ _ hHeld (by repeat (first | exact True.intro | (refine tkc rfl rfl (Or.inl ⟨by rfl, fun x h => by have f0 : x.cell? ⟨g, tj, none⟩ = some (.pointer (some ⟨nbs tj, 0, none⟩)) := Ext.cell CTJ.out (Ext.of h); go_simp⟩) ?_; simp only [AP]))) ?_
 simp only [takesA, AP, pA]
 refine wpAnyH_done (by kernel_rfl) ?_ _
 obtain ⟨w2, hw2⟩ : ∃ z, z = w1.drew := ⟨_, rfl⟩
 have HB2 : Hid (Below w1.heap.size w1 w2) := by rw [hw2]; exact (Below.refl _ w1).drew
 rw [← hw2]
 have HG2 := hide (HG1.out.below HB2.out)
 have HBW2 : Hid (Below B w w2) := (HB1.out.mono HBL.out).trans ((HB2.out.mono (Nat.le_trans HBL.out HB1.out.size)))
 have c02 : w2.cell? ⟨w.heap.size, 0, none⟩ = some (.int .i64 ak) := Ext.cell CA0.out (Ext.of HB2.out)
 clear hHeld hw2 CTJ CA1 HG1 HPT
 rw [← hab] at HG2 c02
 have HAB := hide hab
 try rw [← HAB.out]
 clear hab
 go_upto_region 2 with fail
 go_wp2_with fail
 refine (HPK.out _).mono ?_
 rintro en X ⟨rfl, hX⟩
 have hX2 := hX.symm
 clear hX
 subst hX2
 rw [hk6]
 clear HPK
 go_wp2
 go_loopw [8] (fun iv wr => ∃ (k : Nat) (st1 : Nat → NodeS), k ≤ n ∧ iv = .int .i64 k ∧ Moves n (st, said) (st1, said) ∧ CityG B es m nbs ks gv kv (.slice (some ⟨g, 0, none⟩) n cap) rb n cc (T + k) M ab #[.int .i64 ak, .int .i64 at1, .int .i64 af, .int .i64 ac, .int .i64 mk, .int .i64 mh, .int .i64 mr, .int .i64 mf, .int .i64 mv, .bool mn, .string ms, .string rec] 81 st1 said wr ∧ Below B w wr) (fun iv _ => n - (intOf iv).toNat)
 case atStart => exact ⟨0, st, Nat.zero_le _, rfl, Moves.refl _, HG2.out, HBW2.out⟩
 case round =>
  obtain ⟨k, st1, hkn, rfl, hmv, hg, hbw⟩ := hrel
  have HMV := hide hmv
  have HBW := hide hbw
  have HGK := hide hg
  clear hmv hbw
  obtain ⟨hlen3, Fs3, R3, cbs3, sv3, hO3, hab3, hq3⟩ := hg
  have c33 : wr.cell? ⟨cc, 3, none⟩ = some (.slice (some ⟨g, 0, none⟩) n cap) := cell_of_row wr cc 3 _ _ _ hO3.blk
  by_cases hend : k = n
  · have hge : ¬ (k : Int) < n := by omega
    have HMV9 := hide HMV.out
    have HE9 := hide (HGK.out.e.mono (show T + k ≤ T + n by omega) (Nat.le_refl M))
    have HB9 := hide HBW.out
    clear hO3 hab3 hq3 hlen3 hend
    have HHE := hide (hears_any HE9.out hn hM)
    go_wp2_with fail
    refine HHE.out.mono ?_
    rintro e w9 ⟨rfl, st2, said2, hmv2, hE2, hb2, ho2⟩
    have HEND : Hid (∃ st' said', Moves n (st, said) (st', said') ∧ CityE B es m rb n cc (T + n) (M + 100 * n) st' said' w9 ∧ Below B w w9 ∧ ∀ j, j < n → (st' j).out = []) := ⟨st2, said2, HMV9.out.trans hmv2, hE2, HB9.out.trans hb2, ho2⟩
    clear hmv2 hE2 hb2 ho2 HHE
    go_wp2
    first | exact bodyPost_end (v := .tuple #[]) (by simp [results, Tryz.results28]) rfl ⟨rfl, HEND.out⟩ | exact bodyPost_ret (v := .tuple #[]) (by simp [results, Tryz.results28]) rfl ⟨rfl, HEND.out⟩
  · have hk : k < n := by omega
    have hlt2 : (k : Int) < n := by omega
    have ck := hO3.nodeCell k hk
    have HTK := hide (tick_any (hO3.city.node k hk) (hO3.city.ok k hk) (by omega) (by omega))
    have HO3 := hide hO3
    have HAB3 := hide hab3
    have HQ3 := hide hq3
    have HL3 := hide hlen3
    clear hO3 hab3 hq3 hlen3 hend HGK
    go_wp2_with fail
    refine HTK.out.mono ?_
    rintro e w3 ⟨rfl, F', R', hW3, hG3⟩
    obtain ⟨hg3, hb3⟩ := CityG.turn HL3.out HO3.out HAB3.out HQ3.out hk hW3 hG3 ((HO3.out.city.ok k hk).tick) (Nat.le_succ (T + k)) (sgo_tick (st1 k) k)
    have HG4 := hide hg3
    have HB4 : Hid (Below B w w3) := HBW.out.trans hb3
    clear hW3 hG3 hg3 hb3 HTK
    go_wp2
    go_roundw
    case rel => exact ⟨k + 1, _, by omega, by go_num, Moves.more _ _ _ HMV.out (Move.tick st1 said k hk), HG4.out, HB4.out⟩
    case measure => simp [intOf]; omega

set_option linter.unusedSimpArgs false in
set_option linter.unusedVariables false in
set_option maxRecDepth 100000 in
set_option maxHeartbeats 25600000 in
theorem happens_sub {B : Nat} {es : List Addr} {m : Int} {rb n cc T M : Nat} {st : Nat → NodeS} {said : List ByteArray} (a : ActV) {w : World} (h : CityE B es m rb n cc T M st said w) (ha : ActOk a) (hk7 : pickN a.k 11 = 7) (hn : n ≤ 8) (hM : M + 100 * n ≤ 4000000000000) (hT : T + n ≤ 1000000000000) :
 Calls Tryz.prog 28 #[.pointer (some ⟨cc, 0, none⟩), .agg a.cells] w fun e w' => e = .returned (.tuple #[]) ∧ ∃ st' said', Moves n (st, said) (st', said') ∧ CityE B es m rb n cc (T + n) (M + 100 * n) st' said' w' ∧ Below B w w' ∧ ∀ j, j < n → (st' j).out = [] := by
 obtain ⟨ak, at1, af, ac, ⟨mk, mh, mr, mf, mv, mn, ms⟩, rec⟩ := a
 obtain ⟨hlen, Fs, R, nbs, ks, cbs, gv, kv, nv, sv, hO⟩ := h
 obtain ⟨g, cap, rfl, hmax, hgc, hnp⟩ := hO.nodeAt
 have hnpos := hO.npos
 obtain ⟨tj, htj⟩ : ∃ z, z = pickN at1 n := ⟨_, rfl⟩
 have htn : tj < n := by rw [htj]; exact pickN_lt hO.npos
 have htni : (tj : Int) < n := by omega
 show Calls Tryz.prog 28 #[.pointer (some ⟨cc, 0, none⟩), .agg #[.int .i64 ak, .int .i64 at1, .int .i64 af, .int .i64 ac, .int .i64 mk, .int .i64 mh, .int .i64 mr, .int .i64 mf, .int .i64 mv, .bool mn, .string ms, .string rec]] w _
 obtain ⟨w1, hw1⟩ : ∃ z, z = w.alloc (.cells #[.int .i64 ak, .int .i64 at1, .int .i64 af, .int .i64 ac, .int .i64 mk, .int .i64 mh, .int .i64 mr, .int .i64 mf, .int .i64 mv, .bool mn, .string ms, .string rec] 81) := ⟨_, rfl⟩
 have hb1 : Below w.heap.size w w1 := by rw [hw1]; exact (Below.refl _ w).alloc (Nat.le_refl _) _
 have hq1 : w1.heap[w.heap.size]? = some (.cells #[.int .i64 ak, .int .i64 at1, .int .i64 af, .int .i64 ac, .int .i64 mk, .int .i64 mh, .int .i64 mr, .int .i64 mf, .int .i64 mv, .bool mn, .string ms, .string rec] 81 (0, 0)) := by rw [hw1]; exact heap_alloc_new w _
 have C3 : Hid (w1.cell? ⟨cc, 3, none⟩ = some (.slice (some ⟨g, 0, none⟩) n cap)) := cell_of_row w1 cc 3 _ _ _ (blk hO.blk hb1)
 have CTJ : Hid (w1.cell? ⟨g, tj, none⟩ = some (.pointer (some ⟨nbs tj, 0, none⟩))) := (hO.below hb1).nodeCell tj htn
 have CA1 : Hid (w1.cell? ⟨w.heap.size, 1, none⟩ = some (.int .i64 at1)) := cell_of_row w1 w.heap.size 1 _ _ _ hq1
 have CA0 : Hid (w1.cell? ⟨w.heap.size, 0, none⟩ = some (.int .i64 ak)) := cell_of_row w1 w.heap.size 0 _ _ _ hq1
 have HPT : Hid (∀ W, Calls Tryz.prog 26 #[.int .i64 at1, .int .i64 (n : Int)] W fun e w' => e = .returned (.int .i64 (tj : Int)) ∧ w' = W) := fun W => by rw [htj]; exact pick_at at1 n W ha.t.1 ha.t.2 hnpos (by omega)
 have HPK : Hid (∀ W, Calls Tryz.prog 26 #[.int .i64 ak, .int .i64 11] W fun e w' => e = .returned (.int .i64 (pickN ak 11 : Int)) ∧ w' = W) := fun W => pick_at ak 11 W ha.k.1 ha.k.2 (by omega) (by omega)
 have HG1 : Hid (CityG B es m nbs ks gv kv (.slice (some ⟨g, 0, none⟩) n cap) rb n cc T M w.heap.size #[.int .i64 ak, .int .i64 at1, .int .i64 af, .int .i64 ac, .int .i64 mk, .int .i64 mh, .int .i64 mr, .int .i64 mf, .int .i64 mv, .bool mn, .string ms, .string rec] 81 st said w1) := CityG.of hO hlen hb1 (Nat.le_refl _) hq1
 have HBL : Hid (B ≤ w.heap.size) := hO.bl
 have HB1 := hide hb1
 have HW1 := hide hw1
 have HAO := hide ha
 obtain ⟨ab, hab⟩ : ∃ z, z = w.heap.size := ⟨_, rfl⟩
 have HGC := hide hgc
 clear hO hnp htj hb1 hq1 hw1 ha hlen
 go_enter Tryz.func28, Tryz.ntmps28
 go_upto_region 1 with fail
 rw [← HW1.out]
 refine wp_region_held_drew (S := fun X => Below w1.heap.size w1 X) (by kernel_rfl) ((Below.refl _ w1).drew) (fun hHeld => ?_)
 refine takeN [(0, some 14, pA cc 0), (1, some 15, pA cc 0), (2, some 16, pA cc 3), (3, some 17, .slice (some ⟨g, 0, none⟩) n cap), (4, some 18, pA w.heap.size 1), (5, some 19, .int .i64 at1), (6, some 20, pA cc 0), (7, some 21, pA cc 0), (8, some 22, pA cc 3), (9, some 23, .slice (some ⟨g, 0, none⟩) n cap), (10, some 24, .int .i64 (n : Int))] _ _ hHeld (by repeat (first | exact True.intro | (refine tkc rfl rfl (Or.inl ⟨by rfl, fun x h => by have f0 : x.cell? ⟨cc, 3, none⟩ = some (.slice (some ⟨g, 0, none⟩) n cap) := Ext.cell C3.out (Ext.of h); have f1 : x.cell? ⟨w.heap.size, 1, none⟩ = some (.int .i64 at1) := Ext.cell CA1.out (Ext.of h); go_simp⟩) ?_; simp only [AP]))) ?_
 simp only [takesA, AP, pA]
 refine rdy1 11 (fun K hK => ?_)
 go_simp
 refine (HPT.out _).mono ?_
 rintro en X2 ⟨rfl, rfl⟩
 refine hK.out _ _ (hHeld) (fun hHeld => ?_)
 clear hK K
 try simp only [AP, AQ]
 refine takeN [(12, some 26, pA g tj), (13, some 27, pA (nbs tj) 0), (14, some 4, pA (nbs tj) 0)] _ _ hHeld (by repeat (first | exact True.intro | (refine tkc rfl rfl (Or.inl ⟨by rfl, fun x h => by have f0 : x.cell? ⟨g, tj, none⟩ = some (.pointer (some ⟨nbs tj, 0, none⟩)) := Ext.cell CTJ.out (Ext.of h); go_simp⟩) ?_; simp only [AP]))) ?_
 simp only [takesA, AP, pA]
 refine wpAnyH_done (by kernel_rfl) ?_ _
 obtain ⟨w2, hw2⟩ : ∃ z, z = w1.drew := ⟨_, rfl⟩
 have HB2 : Hid (Below w1.heap.size w1 w2) := by rw [hw2]; exact (Below.refl _ w1).drew
 rw [← hw2]
 have HG2 := hide (HG1.out.below HB2.out)
 have HBW2 : Hid (Below B w w2) := (HB1.out.mono HBL.out).trans ((HB2.out.mono (Nat.le_trans HBL.out HB1.out.size)))
 have c02 : w2.cell? ⟨w.heap.size, 0, none⟩ = some (.int .i64 ak) := Ext.cell CA0.out (Ext.of HB2.out)
 clear hHeld hw2 CTJ CA1 HG1 HPT
 rw [← hab] at HG2 c02
 have HAB := hide hab
 try rw [← HAB.out]
 clear hab
 go_upto_region 2 with fail
 go_wp2_with fail
 refine (HPK.out _).mono ?_
 rintro en X ⟨rfl, hX⟩
 have hX2 := hX.symm
 clear hX
 subst hX2
 rw [hk7]
 obtain ⟨hlen2, Fs2, R2, cbs2, sv2, hO2, hab2, hq2⟩ := HG2.out
 have HTK := hide (submit_any rec (hO2.city.node tj htn) hO2.city.globR (hO2.city.ok tj htn).wait)
 have cR : w2.cell? ⟨ab, 11, none⟩ = some (.string rec) := cell_of_row w2 ab 11 _ _ _ hq2
 have HO2 := hide hO2
 have HAB2 := hide hab2
 have HQ2 := hide hq2
 have HL2 := hide hlen2
 clear hO2 hab2 hq2 hlen2 HPK
 go_wp2_with fail
 refine HTK.out.mono ?_
 rintro e w3 ⟨rfl, F', hW3, hG3⟩
 obtain ⟨hg3, hb3⟩ := CityG.turn HL2.out HO2.out HAB2.out HQ2.out htn hW3 hG3 ((HO2.out.city.ok tj htn).sub) (Nat.le_refl T) (sgo_sub (st tj) tj rec)
 have HMV9 : Hid (Moves n (st, said) (updS st tj ((st tj).subS rec), said)) := Moves.more _ _ _ (Moves.refl _) (Move.sub st said tj rec htn)
 have HE9 := hide (hg3.e.mono (show T ≤ T + n by omega) (Nat.le_refl M))
 have HB9 : Hid (Below B w w3) := HBW2.out.trans hb3
 clear hW3 hG3 hg3 hb3 HTK
 have HHE := hide (hears_any HE9.out hn hM)
 go_wp2_with fail
 refine HHE.out.mono ?_
 rintro e w9 ⟨rfl, st2, said2, hmv2, hE2, hb2, ho2⟩
 have HEND : Hid (∃ st' said', Moves n (st, said) (st', said') ∧ CityE B es m rb n cc (T + n) (M + 100 * n) st' said' w9 ∧ Below B w w9 ∧ ∀ j, j < n → (st' j).out = []) := ⟨st2, said2, HMV9.out.trans hmv2, hE2, HB9.out.trans hb2, ho2⟩
 clear hmv2 hE2 hb2 ho2 HHE
 go_wp2
 first | exact bodyPost_end (v := .tuple #[]) (by simp [results, Tryz.results28]) rfl ⟨rfl, HEND.out⟩ | exact bodyPost_ret (v := .tuple #[]) (by simp [results, Tryz.results28]) rfl ⟨rfl, HEND.out⟩

end Go.Proofs.YtcfjhbcpjpgodaaGreatDoor
