/- Proved here: what the program's precommits reads out of frames: those that are signed precommits, in their order. · Proved here: whom the program's Blame tells: just those whom the document blames. -/
import Derived.Test.YtcfjhbcpjpgodaaGreatDoorJ23
import Derived.Test.YtcfjhbcpjpgodaaGreatDoorJ14
import Derived.Test.YtcfjhbcpjpgodaaGreatDoorJ16
import Derived.Test.YtcfjhbcpjpgodaaGreatDoorJ43
import Derived.Test.YtcfjhbcpjpgodaaGreatDoorDoubleV
import Derived.Test.YtcfjhbcpjpgodaaGreatDoorConcat
namespace Go.Proofs.YtcfjhbcpjpgodaaGreatDoor
open Go.RowKit

set_option maxRecDepth 100000 in
set_option maxHeartbeats 3200000 in
theorem precommits_any (F : Nat → Prop) (rb n : Nat) (sg : Nat → List ByteArray) (fr : Nat → ByteArray) (p : Option Addr) (m cap : Nat) (bF bS : Addr) (w : World) (hr : RingI F rb n sg w) (hlt : ∀ k, F k → k < w.heap.size) (hF : ErrAt w 2 bF) (hS : ErrAt w 3 bS)
    (hl : Lies w w.heap.size p m (fun i => .string (fr i))) (hm : m ≤ 1000000000) :
    Calls Tryz.prog 99 #[.pointer (some ⟨rb, 0, none⟩), .slice p m cap] w fun e w' => ∃ v, e = .returned v ∧ w'.ownsRow w.heap.size 57 7 v (votesL sg n fr m).length (msgL (votesL sg n fr m)) ∧ Below w.heap.size w w' := by
  obtain ⟨iM, hiM, hy0, hy1, hy2⟩ := info_parts Tryz.infoMsg
  have HR := hide hr
  have HLT := hide hlt
  have HF := hide hF
  have HS := hide hS
  have HL := hide hl
  have HM := hide hm
  have hmx : (m : Int) ≤ 9223372036854775807 := by omega
  clear hr hlt hF hS hl hm
  go_enter Tryz.func99, Tryz.ntmps99
  go_wp2
  go_loopw [5, 7, 8, 9, 12] (fun v _ _ _ i wr => ∃ k : Nat, k ≤ m ∧ i = .int .i64 k ∧ wr.ownsRow w.heap.size 57 7 v (votesL sg n fr k).length (msgL (votesL sg n fr k)) ∧ Below w.heap.size w wr) (fun _ _ _ _ i _ => m - (intOf i).toNat)
  case atStart => exact ⟨0, Nat.zero_le _, rfl, World.ownsRow_nil _ _ _ _, Below.refl _ _⟩
  case round =>
    obtain ⟨k, hk, rfl, hv, hb⟩ := hrel
    have HV := hide hv
    have HB := hide hb
    clear hv hb
    by_cases hkn : k = m
    · subst hkn
      go_wp2
      go_ret
      exact ⟨_, rfl, HV.out, HB.out⟩
    · have hlt : k < m := by omega
      have hlt2 : (k : Int) < m := by omega
      have HK := hide hlt
      obtain ⟨pb, po, rfl, hpb, hc⟩ := HL.out k hlt
      have hcr : wr.cell? ⟨pb, po + k, none⟩ = some (.string (fr k)) := (HB.out.cell (p := ⟨pb, po + k, none⟩) (by exact hpb)).trans hc
      obtain ⟨t, ht⟩ : ∃ t, t = fr k := ⟨_, rfl⟩
      rw [← ht] at hcr
      have HT := hide ht
      have hkx : k ≤ 1000000000 := by have := HM.out; omega
      clear hc ht hkn
      have HO := hide (open_any F rb n sg t bF bS wr (HR.out.frame (fun k hk => HB.out.block k (HLT.out k hk))) (fun k hk => Nat.lt_of_lt_of_le (HLT.out k hk) HB.out.size) (HF.out.below HB.out) (HS.out.below HB.out))
      obtain ⟨mm, hmm⟩ : ∃ x, x = decV t := ⟨_, rfl⟩
      obtain ⟨K, H, R, Fm, V, nl, s⟩ := mm
      have HMM := hide hmm
      clear hmm
      go_wp2_with fail
      refine HO.out.mono ?_
      clear HO
      rintro e w1 ⟨hb1, ⟨hd, hs, rfl⟩ | ⟨hd, g, hg, hra, rfl⟩ | ⟨hd, hs, g, hg, hra, rfl⟩⟩
      · rw [← HMM.out]
        have HBW : Hid (Below w.heap.size w w1) := HB.out.trans (hb1.mono HB.out.size)
        have HV1 := hide (own_keep HV.out hb1)
        have hws : w.heap.size ≤ w1.heap.size := HBW.out.size
        have HVL := votesL_len sg n fr k
        clear hb1 HB HV hcr
        by_cases hk3 : K = 3
        · have HE : Hid (votesL sg n fr (k + 1) = votesL sg n fr k ++ [⟨3, H, R, Fm, V, nl, s⟩]) := by
            unfold Hid
            rw [votesL_yes (by rw [← HT.out]; unfold voteB; rw [hd, hs, ← HMM.out, hk3]; rfl), ← HT.out, ← HMM.out, hk3]
          subst hk3
          clear hd hs
          unfold MsgV.cells
          go_wp2_with (first | (refine wpList_store_new rfl 57 _ _ rfl w1 #[.int .i64 3, .int .i64 H, .int .i64 R, .int .i64 Fm, .int .i64 V, .bool nl, .string s] rfl rfl 57 _ rfl (by simp [Value.oneCell']) Tryz.sizeMsg ?_; intro w2 hq2 hb2 hz2; have hc0 : w2.cell? ⟨w1.heap.size, 0, none⟩ = some (.int .i64 3) := cell_of_row w2 _ 0 _ _ _ hq2; have HQ2 := hide hq2; have HV2 := hide (own_keep HV1.out (hb2)); have HZ2 := hide hz2; clear hq2 hz2) |
            (refine wpList_load_row rfl 57 _ rfl w1.heap.size rfl 57 #[.int .i64 3, .int .i64 H, .int .i64 R, .int .i64 Fm, .int .i64 V, .bool nl, .string s] (0, 0) _ HQ2.out Tryz.underlying57 rfl Tryz.sizeMsg ?_) |
            (at_builtin; (refine wpList_append_at _ rfl _ _ 185 rfl w.heap.size 57 iM _ 7 64 Tryz.underlying185 hiM hy0 hy1 hy2 rfl (by decide) _ _ _ rfl (own_keep HV2.out ((Below.refl _ w2).alloc (Nat.le_refl _) (.cells #[.int .i64 3, .int .i64 H, .int .i64 R, .int .i64 Fm, .int .i64 V, .bool nl, .string s] 57))) ⟨w2.heap.size, 0, none⟩ 1 1 [.int .i64 3, .int .i64 H, .int .i64 R, .int .i64 Fm, .int .i64 V, .bool nl, .string s] rfl rfl ?c1 ?c2 ?c3 ?c4 ?c5 ?_)) | go_in)
          case c1 =>
            intro j u hj
            rw [addr_add, Nat.zero_add]
            rw [cell_of_row _ _ j _ _ _ (heap_alloc_new w2 (.cells #[.int .i64 3, .int .i64 H, .int .i64 R, .int .i64 Fm, .int .i64 V, .bool nl, .string s] 57))]
            simpa using hj
          case c2 => simp [Value.oneCell']
          case c3 => unfold maxLen; omega
          case c4 => omega
          case c5 => have := HZ2.out; simp; omega
          intro v5 w5 hown5 hgrow5 hat5
          have hz2 := HZ2.out
          have HO5 : Hid (w5.ownsRow w.heap.size 57 7 v5 (votesL sg n fr (k + 1)).length (msgL (votesL sg n fr (k + 1)))) := by
            unfold Hid
            rw [HE.out, List.length_append, msgL_append]
            exact hown5
          have HB5 : Hid (Below w.heap.size w w5) := ((HBW.out.trans (hb2.mono hws)).alloc (by omega) _).grown hgrow5 (by simp; omega) (fun k hk => (HV2.out.lt k hk).1)
          clear hown5 hgrow5 hat5 hz2
          go_wp2
          go_roundw
          case rel => exact ⟨k + 1, HK.out, by go_num, HO5.out, HB5.out⟩
          case measure => have := HK.out; simp [intOf]; omega
        · have HE : Hid (votesL sg n fr (k + 1) = votesL sg n fr k) := by
            unfold Hid
            rw [votesL_no (by rw [← HT.out]; unfold voteB; rw [← HMM.out, decide_eq_false hk3, Bool.and_false])]
          have hkb : (K == 3) = false := by simpa using hk3
          clear hd hs hk3
          unfold MsgV.cells
          go_wp2_with (first | (refine wpList_store_new rfl 57 _ _ rfl w1 #[.int .i64 K, .int .i64 H, .int .i64 R, .int .i64 Fm, .int .i64 V, .bool nl, .string s] rfl rfl 57 _ rfl (by simp [Value.oneCell']) Tryz.sizeMsg ?_; intro w2 hq2 hb2 hz2; have hc0 : w2.cell? ⟨w1.heap.size, 0, none⟩ = some (.int .i64 K) := cell_of_row w2 _ 0 _ _ _ hq2; have HV2 := hide (own_keep HV1.out hb2); have HZ2 := hide hz2; clear hq2 hz2) | go_in)
          go_roundw
          case rel => exact ⟨k + 1, HK.out, by go_num, by rw [HE.out]; exact HV2.out, HBW.out.trans (hb2.mono hws)⟩
          case measure => have := HK.out; simp [intOf]; omega
      · have HE : Hid (votesL sg n fr (k + 1) = votesL sg n fr k) := by
          unfold Hid
          rw [votesL_no (by rw [← HT.out]; unfold voteB; rw [hd]; rfl)]
        have HBW : Hid (Below w.heap.size w w1) := HB.out.trans (hb1.mono HB.out.size)
        have HV1 := hide (own_keep HV.out hb1)
        have hws : w.heap.size ≤ w1.heap.size := HBW.out.size
        clear hb1 HB HV hcr hd hg hra
        unfold MsgV.cells msg0 refV
        go_wp2_with (first | (refine wpList_store_new rfl 57 _ _ rfl w1 #[.int .i64 0, .int .i64 0, .int .i64 0, .int .i64 0, .int .i64 0, .bool false, .string ⟨#[]⟩] rfl rfl 57 _ rfl (by simp [Value.oneCell']) Tryz.sizeMsg ?_; intro w2 hq2 hb2 hz2; have HV2 := hide (own_keep HV1.out hb2); have HZ2 := hide hz2; clear hq2 hz2) | go_in)
        go_roundw
        case rel => exact ⟨k + 1, HK.out, by go_num, by rw [HE.out]; exact HV2.out, HBW.out.trans (hb2.mono hws)⟩
        case measure => have := HK.out; simp [intOf]; omega
      · have HE : Hid (votesL sg n fr (k + 1) = votesL sg n fr k) := by
          unfold Hid
          rw [votesL_no (by rw [← HT.out]; unfold voteB; rw [hd, hs]; rfl)]
        have HBW : Hid (Below w.heap.size w w1) := HB.out.trans (hb1.mono HB.out.size)
        have HV1 := hide (own_keep HV.out hb1)
        have hws : w.heap.size ≤ w1.heap.size := HBW.out.size
        clear hb1 HB HV hcr hd hs hg hra
        unfold MsgV.cells msg0 refV
        go_wp2_with (first | (refine wpList_store_new rfl 57 _ _ rfl w1 #[.int .i64 0, .int .i64 0, .int .i64 0, .int .i64 0, .int .i64 0, .bool false, .string ⟨#[]⟩] rfl rfl 57 _ rfl (by simp [Value.oneCell']) Tryz.sizeMsg ?_; intro w2 hq2 hb2 hz2; have HV2 := hide (own_keep HV1.out hb2); have HZ2 := hide hz2; clear hq2 hz2) | go_in)
        go_roundw
        case rel => exact ⟨k + 1, HK.out, by go_num, by rw [HE.out]; exact HV2.out, HBW.out.trans (hb2.mono hws)⟩
        case measure => have := HK.out; simp [intOf]; omega

end Go.Proofs.YtcfjhbcpjpgodaaGreatDoor
namespace Go.Proofs.YtcfjhbcpjpgodaaGreatDoor
open Go.RowKit

theorem Tryz.infoIntB : (Tryz.prog.info? 3).map (fun i => (i.zero, i.size, i.bytes)) = some (some (.int .i64 0), 1, 8) := by kernel_rfl

theorem glue_sizes {fa fb : Nat → ByteArray} {ma mb : Nat} : textL (glue fa ma fb) (ma + mb) = ((List.range (ma + mb)).map (glue fa ma fb)).map .string := by
  unfold textL
  rw [List.map_map]
  rfl

theorem range_getD (f : Nat → ByteArray) (n i : Nat) (h : i < n) : ((List.range n).map f).getD i ByteArray.empty = f i := by
  rw [List.getD_eq_getElem?_getD]
  simp [h]

/-- What the ids are. -/
def idsL (b : Nat → Bool) (k : Nat) : List Nat := (List.range k).filter b
theorem idsL_yes {b : Nat → Bool} {k : Nat} (h : b k = true) : idsL b (k + 1) = idsL b k ++ [k] := by
  unfold idsL
  rw [List.range_succ, List.filter_append]
  simp [h]
theorem idsL_no {b : Nat → Bool} {k : Nat} (h : b k = false) : idsL b (k + 1) = idsL b k := by
  unfold idsL
  rw [List.range_succ, List.filter_append]
  simp [h]
theorem idsL_len (b : Nat → Bool) (k : Nat) : (idsL b k).length ≤ k := by
  have := List.length_filter_le b (List.range k)
  unfold idsL
  simpa using this
theorem idsL_blame {sg : Nat → List ByteArray} {n m : Nat} {fr : Nat → ByteArray} {b : Nat → Bool} (h : ∀ id : Nat, id < 8 → (b id = true ↔ Two (fun i => (votesL sg n fr m).getD i msg0) (votesL sg n fr m).length (id : Int))) : idsL b 8 = blameL sg n fr m 8 := by
  unfold idsL blameL
  apply List.filter_congr
  intro id hid
  have h8 : id < 8 := by simpa using hid
  have h1 := h id h8
  rw [two_bad, ← badB_iff] at h1
  cases hb : b id <;> cases hc : badB sg n id fr m <;> simp_all

theorem votesL_f {sg : Nat → List ByteArray} {n m : Nat} {fr : Nat → ByteArray} (i : Nat) (hi : i < (votesL sg n fr m).length) : 0 ≤ ((votesL sg n fr m).getD i msg0).f ∧ ((votesL sg n fr m).getD i msg0).f < 8 := by
  have hm : (votesL sg n fr m).getD i msg0 ∈ votesL sg n fr m := by
    rw [List.getD_eq_getElem?_getD, List.getElem?_eq_getElem hi]
    exact List.getElem_mem hi
  obtain ⟨j, _, hv, e⟩ := votesL_mem.1 hm
  rw [e]
  unfold voteB at hv
  simp only [Bool.and_eq_true] at hv
  have := decV_ok hv.1.1
  omega

def idV (l : List Nat) : List Value := l.map fun (i : Nat) => Value.int .i64 (i : Int)

set_option maxRecDepth 100000 in
set_option maxHeartbeats 3200000 in
theorem blame_any (F : Nat → Prop) (rb n : Nat) (sg : Nat → List ByteArray) (fa fb : Nat → ByteArray) (pa pb : Option Addr) (ma mb ca cb : Nat) (bF bS : Addr) (w : World) (hr : RingI F rb n sg w) (hlt : ∀ k, F k → k < w.heap.size) (hF : ErrAt w 2 bF) (hS : ErrAt w 3 bS)
    (hpa : NilOr pa ma ca) (hpb : NilOr pb mb cb) (hla : Lies w w.heap.size pa ma (fun i => .string (fa i))) (hlb : Lies w w.heap.size pb mb (fun i => .string (fb i))) (hm : ma + mb ≤ 1000000000) :
    Calls Tryz.prog 48 #[.pointer (some ⟨rb, 0, none⟩), .slice pa ma ca, .slice pb mb cb] w fun e w' => ∃ v, e = .returned v ∧ w'.ownsRow w.heap.size 3 1 v (blameL sg n (glue fa ma fb) (ma + mb) 8).length (idV (blameL sg n (glue fa ma fb) (ma + mb) 8)) ∧ Below w.heap.size w w' := by
  obtain ⟨iI, hiI, hy0, hy1, hy2⟩ := info_parts Tryz.infoIntB
  have HR := hide hr
  have HLT := hide hlt
  have HF := hide hF
  have HS := hide hS
  have HPA := hide hpa
  have HPB := hide hpb
  have HLA := hide hla
  have HLB := hide hlb
  have HM := hide hm
  clear hr hlt hF hS hpa hpb hla hlb hm
  have hb0 : Below w.heap.size w (w.alloc (.cells #[.slice pa ma ca, .slice pb mb cb] 30)) := (Below.refl _ w).alloc (Nat.le_refl _) _
  have HC := hide (concat_any fa fb pa pb ma mb ca cb w.heap.size (w.alloc (.cells #[.slice pa ma ca, .slice pb mb cb] 30)) (cell_of_row _ _ 0 _ _ _ (heap_alloc_new w _)) (cell_of_row _ _ 1 _ _ _ (heap_alloc_new w _)) HPA.out HPB.out ((HLA.out.below hb0).more hb0.size) ((HLB.out.below hb0).more hb0.size) HM.out)
  have HB0 := hide hb0
  clear hb0
  go_enter Tryz.func48, Tryz.ntmps48
  go_wp2_with fail
  refine HC.out.mono ?_
  rintro e w1 ⟨v, rfl, hov, hb1⟩
  rw [glue_sizes] at hov
  obtain ⟨L, hL⟩ : ∃ L, L = (List.range (ma + mb)).map (glue fa ma fb) := ⟨_, rfl⟩
  have hlen : L.length = ma + mb := by rw [hL]; simp
  rw [← hL, ← hlen] at hov
  obtain ⟨vp, vc, rfl, -, hvl⟩ := own_lies hov
  rw [hlen] at hvl ⊢
  have HB1 : Hid (Below w.heap.size w w1) := HB0.out.trans (hb1.mono HB0.out.size)
  have HVL : Hid (Lies w1 w1.heap.size vp (ma + mb) (fun i => .string (glue fa ma fb i))) := fun i hi => by
    have h := hvl i hi
    simp only [hL, range_getD _ _ _ hi] at h
    exact h
  clear hov hvl hb1 HC hlen hL
  have HP := hide (precommits_any F rb n sg (glue fa ma fb) vp (ma + mb) vc bF bS w1 (HR.out.frame (fun k hk => HB1.out.block k (HLT.out k hk))) (fun k hk => Nat.lt_of_lt_of_le (HLT.out k hk) HB1.out.size) (HF.out.below HB1.out) (HS.out.below HB1.out) HVL.out HM.out)
  go_wp2_with fail
  refine HP.out.mono ?_
  rintro e w2 ⟨v2, rfl, hov2, hb2⟩
  have hvn := votesL_len sg n (glue fa ma fb) (ma + mb)
  obtain ⟨mp, mc, rfl, hms⟩ := own_msgs hov2
  have HB2 : Hid (Below w.heap.size w w2) := HB1.out.trans (hb2.mono HB1.out.size)
  have HD := hide (doubleVoters_any (fun i => (votesL sg n (glue fa ma fb) (ma + mb)).getD i msg0) mp (votesL sg n (glue fa ma fb) (ma + mb)).length mc w2 hms (fun i hi => votesL_f i hi) (Nat.le_trans hvn HM.out))
  clear hov2 hb2 HP hms hvn
  go_wp2_with fail
  refine HD.out.mono ?_
  rintro e w3 ⟨b, htwo, rfl, hb3⟩
  have HBL := hide (idsL_blame htwo)
  have HB3 : Hid (Below w.heap.size w w3) := HB2.out.trans (hb3.mono HB2.out.size)
  clear htwo hb3 HD
  have hix := index_bools b
  go_wp2
  go_loopw [7, 8, 9, 17] (fun v _ _ i wr => ∃ k : Nat, k ≤ 8 ∧ i = .int .i64 k ∧ wr.ownsRow w.heap.size 3 1 v (idsL b k).length (idV (idsL b k)) ∧ Below w.heap.size w wr) (fun _ _ _ i _ => 8 - (intOf i).toNat)
  case atStart => exact ⟨0, Nat.zero_le _, rfl, World.ownsRow_nil _ _ _ _, HB3.out⟩
  case round =>
    obtain ⟨k, hk, rfl, hv, hb⟩ := hrel
    have HV := hide hv
    have HB := hide hb
    have hws : w.heap.size ≤ wr.heap.size := hb.size
    clear hv hb
    by_cases hkn : k = 8
    · subst hkn
      go_wp2
      go_ret
      exact ⟨_, rfl, by rw [← HBL.out]; exact HV.out, HB.out⟩
    · have hlt : k < 8 := by omega
      have hlt2 : (k : Int) < 8 := by omega
      have hixk := fun W => hix k hlt W
      have HK := hide hlt
      have HLN := idsL_len b k
      clear hix
      cases hbk : b k with
      | false =>
        rw [hbk] at hixk
        have HE := hide (idsL_no hbk)
        clear hbk
        go_wp2
        go_roundw
        case rel => exact ⟨k + 1, HK.out, by go_num, by rw [HE.out]; exact HV.out, HB.out⟩
        case measure => have := HK.out; simp [intOf]; omega
      | true =>
        rw [hbk] at hixk
        have HE := hide (idsL_yes hbk)
        clear hbk
        go_wp2_with (first | (at_builtin; refine wpList_append_at _ rfl _ _ 22 rfl w.heap.size 3 iI (.int .i64 0) 1 8 Tryz.underlying22 hiI hy0 hy1 hy2 rfl (by decide) _ _ _ rfl (own_keep HV.out ((Below.refl _ wr).alloc (Nat.le_refl _) (.cells #[.int .i64 (k : Int)] 3))) ⟨wr.heap.size, 0, none⟩ 1 1 [.int .i64 (k : Int)] rfl rfl ?c1 ?c2 ?c3 ?c4 ?c5 ?_) | go_in)
        case c1 =>
          intro j u hj
          match j, hj with
          | 0, hj => simp at hj; subst hj; simp [Addr.add]
        case c2 => simp [Value.oneCell']
        case c3 => unfold maxLen; omega
        case c4 => omega
        case c5 => simp; omega
        intro v5 w5 hown5 hgrow5 hat5
        have HO5 : Hid (w5.ownsRow w.heap.size 3 1 v5 (idsL b (k + 1)).length (idV (idsL b (k + 1)))) := by
          unfold Hid idV
          rw [HE.out, List.length_append, List.map_append]
          exact hown5
        have HB5 : Hid (Below w.heap.size w w5) := (HB.out.alloc hws _).grown hgrow5 (by simp; omega) (fun k hk => (HV.out.lt k hk).1)
        clear hown5 hgrow5 hat5
        go_wp2
        go_roundw
        case rel => exact ⟨k + 1, HK.out, by go_num, HO5.out, HB5.out⟩
        case measure => have := HK.out; simp [intOf]; omega

end Go.Proofs.YtcfjhbcpjpgodaaGreatDoor
