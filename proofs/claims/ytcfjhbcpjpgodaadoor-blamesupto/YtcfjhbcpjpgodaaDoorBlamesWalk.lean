/- Proved here: the statement Blames as a walk: at all messages and texts, in every world in which the two sentinels lie as listed, the call returns true and leaves all old memory as it was. -/
import Derived.Test.YtcfjhbcpjpgodaaDoorBlamesInv
import Derived.Test.YtcfjhbcpjpgodaaDoorBlameSpec
import Derived.Test.YtcfjhbcpjpgodaaDoorJ22
import Derived.Test.YtcfjhbcpjpgodaaDoorPick
import Derived.Test.YtcfjhbcpjpgodaaDoorSame
import Derived.Test.YtcfjhbcpjpgodaaDoorRefEnc
import Derived.Test.YtcfjhbcpjpgodaaDoorRefBlame
import Derived.Test.YtcfjhbcpjpgodaaDoorSliceCut
import Derived.Test.YtcfjhbcpjpgodaaDoorJ48
namespace Go.Proofs.YtcfjhbcpjpgodaaDoor
open Go.RowKit

theorem Tryd.sizeMsg7 : (Tryd.prog.info? 28).map (·.size) = some 7 := by kernel_rfl

theorem keys_at {w : World} {base n kc : Nat} {kp : Option Addr} {ks : Nat → Nat} (h : w.ownsRow base 79 1 (.slice kp n kc) n (keyL ks n)) (f : Nat) (hf : f < n) : ∃ g, kp = some ⟨g, 0, none⟩ ∧ w.cell? ⟨g, f, none⟩ = some (.pointer (some ⟨ks f, 0, none⟩)) := by
  rcases h.2 with ⟨_, h0⟩ | ⟨g, cap, cur, e0, hb, hg, hnc, hcm, hcs, ht⟩
  · omega
  · cases e0
    refine ⟨g, rfl, ?_⟩
    rw [cell_of_row w g f _ _ _ hg]
    have e1 : (cur.toList.take (n * 1))[f]? = (keyL ks n)[f]? := by rw [ht]
    rw [List.getElem?_take, if_pos (by omega)] at e1
    rw [← Array.getElem?_toList, e1]
    simp [keyL, hf]

theorem own_ints {w : World} {base : Nat} {p : Option Addr} {c : Nat} {l : List Nat} (h : w.ownsRow base 3 1 (.slice p l.length c) l.length (l.map fun (i : Nat) => Value.int .i64 (i : Int))) : Lies w w.heap.size p l.length (fun i => .int .i64 ((l.getD i 0 : Nat) : Int)) := fun i hi => by
  rcases h.2 with ⟨_, h0⟩ | ⟨g, cap, cur, e0, hb, hg, hnc, hcm, hcs, ht⟩
  · omega
  · cases e0
    refine ⟨g, 0, rfl, row_lt0 hg, ?_⟩
    rw [cell_of_row w g (0 + i) _ _ _ hg, Nat.zero_add]
    have e1 : (cur.toList.take (l.length * 1))[i]? = (l.map fun (i : Nat) => Value.int .i64 (i : Int))[i]? := by rw [ht]
    rw [List.getElem?_take, if_pos (by omega)] at e1
    rw [← Array.getElem?_toList, e1, List.getElem?_map]
    show Option.map (fun (i : Nat) => Value.int .i64 (i : Int)) l[i]? = some (Value.int .i64 ((l.getD i 0 : Nat) : Int))
    rw [List.getD_eq_getElem?_getD, List.getElem?_eq_getElem hi]
    rfl

theorem BadTo.congr {sg : Nat → List ByteArray} {n id m : Nat} {fr fr' : Nat → ByteArray} (h : ∀ i, i < m → fr i = fr' i) : BadTo sg n id fr m 0 ↔ BadTo sg n id fr' m 0 := by
  constructor
  · rintro ⟨x, y, h1, h2, h3⟩
    exact ⟨x, y, h1, h2, by rw [← h x (by omega), ← h y (by omega)]; exact h3⟩
  · rintro ⟨x, y, h1, h2, h3⟩
    exact ⟨x, y, h1, h2, by rw [h x (by omega), h y (by omega)]; exact h3⟩
theorem blameL_congr {sg : Nat → List ByteArray} {n m : Nat} {fr fr' : Nat → ByteArray} (h : ∀ i, i < m → fr i = fr' i) (top : Nat) : blameL sg n fr m top = blameL sg n fr' m top := by
  unfold blameL
  apply List.filter_congr
  intro id _
  have h1 := BadTo.congr (sg := sg) (n := n) (id := id) h
  rw [← badB_iff, ← badB_iff] at h1
  cases ha : badB sg n id fr m <;> cases hb : badB sg n id fr' m <;> simp_all

/-- The two votes at the end. -/
def voteA : ByteArray := encS 3 0 0 5 0 false ⟨#[108, 97]⟩
def voteN : ByteArray := encS 3 0 0 5 0 true ⟨#[]⟩
theorem voteA_ok : decOk voteA = true := by decide +kernel
theorem voteN_ok : decOk voteN = true := by decide +kernel
theorem voteA_f : (decV voteA).f = 5 ∧ (decV voteA).k = 3 ∧ (decV voteA).h = 0 ∧ (decV voteA).r = 0 := by decide +kernel
theorem voteN_f : (decV voteN).f = 5 ∧ (decV voteN).k = 3 ∧ (decV voteN).h = 0 ∧ (decV voteN).r = 0 := by decide +kernel
theorem vote_ne : voteN ≠ voteA := by
  intro e
  have : voteN.size = voteA.size := by rw [e]
  exact absurd this (by decide +kernel)
theorem hasT_signR {sg : Nat → List ByteArray} {i : Nat} {t : ByteArray} : hasT (signR sg i t i) t = true := by
  cases h : hasT (sg i) t with
  | true =>
    unfold signR
    rw [h]
    simpa using h
  | false =>
    apply hasT_yes
    unfold signR
    rw [h]
    simp
theorem hasT_signR_more {sg : Nat → List ByteArray} {i : Nat} {t s : ByteArray} (h : hasT (sg i) s = true) : hasT (signR sg i t i) s = true := by
  rw [hasT_iff] at h ⊢
  unfold signR
  split
  · simp [h]
  · exact h
theorem five_blame (sg : Nat → List ByteArray) : blameL (signR (signR sg 5 voteA) 5 voteN) 8 (glue (fun _ => voteA) 1 (fun _ => voteN)) 2 8 = [5] := by
  have hno : ∀ id : Nat, id ≠ 5 → badB (signR (signR sg 5 voteA) 5 voteN) 8 id (glue (fun _ => voteA) 1 (fun _ => voteN)) 2 = false := fun id hid => by
    apply Bool.eq_false_iff.2
    intro h
    rw [badB_iff] at h
    obtain ⟨x, y, h1, h2, h3⟩ := h
    have hx : x = 1 := by omega
    subst hx
    have e : glue (fun _ => voteA) 1 (fun _ => voteN) 1 = voteN := rfl
    have h4 := h3.2.2.1
    rw [e, voteN_f.1] at h4
    omega
  have hyes : badB (signR (signR sg 5 voteA) 5 voteN) 8 5 (glue (fun _ => voteA) 1 (fun _ => voteN)) 2 = true := by
    rw [badB_iff]
    have s1 : signedB (signR (signR sg 5 voteA) 5 voteN) 8 ((5 : Nat) : Int) voteN = true := by rw [signedB_in (by omega)]; exact hasT_signR
    have s2 : signedB (signR (signR sg 5 voteA) 5 voteN) 8 ((5 : Nat) : Int) voteA = true := by rw [signedB_in (by omega)]; exact hasT_signR_more hasT_signR
    exact ⟨1, 0, by omega, Or.inl (by omega), voteN_ok, voteA_ok, voteN_f.1, voteA_f.1, voteN_f.2.1, voteA_f.2.1, by rw [show glue (fun _ => voteA) 1 (fun _ => voteN) 1 = voteN from rfl, show glue (fun _ => voteA) 1 (fun _ => voteN) 0 = voteA from rfl, voteN_f.2.2.1, voteA_f.2.2.1], by rw [show glue (fun _ => voteA) 1 (fun _ => voteN) 1 = voteN from rfl, show glue (fun _ => voteA) 1 (fun _ => voteN) 0 = voteA from rfl, voteN_f.2.2.2, voteA_f.2.2.2], s1, s2, vote_ne⟩
  unfold blameL
  have e : List.range 8 = [0, 1, 2, 3, 4, 5, 6, 7] := by decide
  rw [e]
  simp [List.filter, hno 0 (by omega), hno 1 (by omega), hno 2 (by omega), hno 3 (by omega), hno 4 (by omega), hyes, hno 6 (by omega), hno 7 (by omega)]

set_option maxRecDepth 100000 in
set_option maxHeartbeats 12800000 in
theorem blames_walk (bF bS : Addr) (said cut : Int) (hcut1 : -9223372036854775808 ≤ cut) (hcut2 : cut ≤ 9223372036854775807) (ms : Nat → MsgV) (lp : Option Addr) (ln lcap : Nat) (raw : Nat → ByteArray) (rp : Option Addr) (rn rcap : Nat) (w : World) (hln : ln ≤ 1048576) (hrn : rn ≤ 1048576) (hms : MsgsAt w w.heap.size lp ln ms)
    (hmo : ∀ i, i < ln → (ms i).s.size ≤ maxLen ∧ (ms i).v ≤ 9223372036854775807 ∧ -9223372036854775808 ≤ (ms i).v) (hrp : NilOr rp rn rcap) (hraw : Lies w w.heap.size rp rn (fun i => .string (raw i))) (hrs : ∀ i, i < rn → (raw i).size ≤ maxLen) (hEF : ErrAt w 1 bF) (hES : ErrAt w 2 bS) :
    Calls Tryd.prog 7 #[.slice lp ln lcap, .int .i64 said, .slice rp rn rcap, .int .i64 cut] w fun e w' => e = .returned (.bool true) ∧ Below w.heap.size w w' := by
  obtain ⟨i9, hi9, hz0, hz1, hz2⟩ := info_parts Tryd.infoString
  have HLN := hide hln
  have HRN := hide hrn
  have HMS := hide hms
  have HMO := hide hmo
  have HRP := hide hrp
  have HRW := hide hraw
  have HRS := hide hrs
  have HCUT := hide (And.intro hcut1 hcut2)
  have HEF := hide hEF
  have HES := hide hES
  clear hln hrn hms hmo hrp hraw hrs hcut1 hcut2 hEF hES
  have HNW : Hid (Calls Tryd.prog 25 #[.int .i64 8] w fun e w' => ∃ (ov : Value) (kp : Option Addr) (kc : Nat) (ks : Nat → Nat), e = .returned (.tuple #[.pointer (some ⟨w.heap.size, 0, none⟩), .slice kp 8 kc]) ∧
      RingI (fun k => k = w.heap.size ∨ some k = ov.ownBlock) w.heap.size 8 (fun _ => []) w' ∧ w'.ownsRow (w.heap.size + 1) 39 1 ov 8 (List.replicate 8 (.slice none 0 0)) ∧
      w'.ownsRow (w.heap.size + 1) 79 1 (.slice kp 8 kc) 8 (keyL ks 8) ∧ (∀ i, i < 8 → w.heap.size < ks i ∧ KeyAt w' (ks i) w.heap.size i) ∧ Below w.heap.size w w') := ringNew_any 8 w (by omega) (by omega)
  go_enter Tryd.func7, Tryd.ntmps7
  go_wp2_with fail
  refine HNW.out.mono ?_
  rintro e w1 ⟨ov, kp, kc, ks, rfl, hr, ho, hk, hks, hb1⟩
  have hw1 : w.heap.size < w1.heap.size := by obtain ⟨ob, cap, cur, iv, h1, _⟩ := hr; exact row_lt0 h1
  have HI0 := hide (BlI.start hr ho hk hks hw1)
  have HB1 := hide hb1
  clear hr ho hk hks hb1 HNW
  go_wp2_with (first | (at_builtin; refine wpList_append_texts _ rfl _ _ 39 rfl w.heap.size 9 i9 (.string ByteArray.empty) 16 Tryd.underlying39 hi9 hz0 hz1 hz2 rfl _ _ _ rfl HI0.out.all rp rn rcap raw rfl HRP.out ((HRW.out.below HB1.out).more HB1.out.size) ?c3 ?c4 ?c5 ?_) | go_in)
  case c3 => have := HRN.out; unfold maxLen; simp; omega
  case c4 => have := HRN.out; simp; omega
  case c5 => omega
  intro v2 w2 hown2 hgrow2 hat2
  obtain ⟨L0, hL0⟩ : ∃ L, L = (List.range rn).map raw := ⟨_, rfl⟩
  have hl0 : L0.length = rn := by rw [hL0]; simp
  have HI2 := hide (HI0.out.more (L' := L0) (by rw [hL0]; simpa [List.map_map, Function.comp_def] using hown2) hgrow2 hat2)
  have HB2 : Hid (Below w.heap.size w w2) := HB1.out.grown hgrow2 (by omega) (fun k hk => (HI0.out.all.lt k hk).1)
  have HLS : Hid (∀ t ∈ L0, t.size ≤ maxLen) := fun t ht => by
    rw [hL0, List.mem_map] at ht
    obtain ⟨i, hi, rfl⟩ := ht
    exact HRS.out i (by simpa using hi)
  clear hown2 hgrow2 hat2 HI0 hL0
  go_wp2
  go_loopw [11, 12, 13, 14] (fun v i _ _ wr => ∃ (k : Nat) (F : Nat → Prop) (sg : Nat → List ByteArray) (L : List ByteArray), k ≤ ln ∧ i = .int .i64 k ∧ BlI w.heap.size w.heap.size ks (.slice kp 8 kc) F sg v L wr ∧ L.length ≤ rn + k ∧ (∀ i, (sg i).length ≤ k) ∧ (∀ t ∈ L, t.size ≤ maxLen) ∧ Below w.heap.size w wr) (fun _ i _ _ _ => ln - (intOf i).toNat)
  case atStart => exact ⟨0, _, _, L0, Nat.zero_le _, rfl, HI2.out, by omega, fun _ => Nat.le_refl _, HLS.out, HB2.out⟩
  case round =>
    clear HI2 HB2 HLS hl0 L0
    obtain ⟨k, F, sg, L, hk, rfl, hI, hLl, hsl, hls, hb⟩ := hrel
    have HI := hide hI
    have HLL := hide hLl
    have HSL := hide hsl
    have HLS := hide hls
    have HB := hide hb
    clear hI hLl hsl hls hb
    by_cases hkn : k = ln
    · have hge : ¬ (k : Int) < ln := by omega
      clear hkn
      have hlx : L.length ≤ 2097152 := by have := HLL.out; have := HRN.out; have := HLN.out; omega
      have HPK : Hid (Calls Tryd.prog 29 #[.int .i64 cut, .int .i64 ((L.length : Int) + 1)] wr fun e w' => (∃ r : Nat, r < L.length + 1 ∧ e = .returned (.int .i64 (r : Int))) ∧ w' = wr) := by
        have h := pick_any cut (L.length + 1) wr HCUT.out.1 HCUT.out.2 (by omega) (by omega)
        have e1 : (((L.length + 1 : Nat) : Nat) : Int) = (L.length : Int) + 1 := by omega
        rw [e1] at h
        exact h
      obtain ⟨vp0, vc0, rfl⟩ := own_slice HI.out.all
      go_wp2_with fail
      refine HPK.out.mono ?_
      rintro e wz ⟨⟨r, hr, rfl⟩, hwz⟩
      have hwy := hwz.symm
      clear hwz HPK
      subst hwy
      obtain ⟨vp, tp, vc, tc, e0, hn1, hn2, hn3, hl1, hl2, hfront, hback⟩ := cut_any HI.out.all r (by omega)
      cases e0
      have HN1 := hide hn1
      have HN2 := hide hn2
      have HN3 := hide hn3
      have HL1 := hide hl1
      have HL2 := hide hl2
      have HFR := hide hfront
      have HBK := hide hback
      have hrl : r ≤ L.length := by omega
      have hlx2 : L.length ≤ 9223372036854775807 := by omega
      clear hn1 hn2 hn3 hl1 hl2 hfront hback hr
      have HT1 := hide (texts_readyN (fun i => L.getD i ByteArray.empty) vp0 r vc0 wr (by omega) HN2.out (fun i hi => HL1.out i (by omega)))
      go_wp2_with (first | (refine wpList_slice_run rfl 39 _ _ _ _ rfl (.slice vp0 L.length vc0) _ _ _ _ rfl rfl rfl rfl (HFR.out _) ?_) | fail)
      refine HT1.out.mono ?_
      rintro e w6 ⟨⟨ap, ac, rfl, hna, hla, hka⟩, hb6⟩
      have HNA := hide hna
      have HLA := hide hla
      have HKA := hide hka
      have HI6 := hide (HI.out.below hb6)
      have HB6 : Hid (Below w.heap.size w w6) := HB.out.trans (hb6.mono HB.out.size)
      have HL16 := hide ((HL1.out.below hb6).more hb6.size)
      have HL26 := hide ((HL2.out.below hb6).more hb6.size)
      clear hna hla hka hb6 HT1
      have HT2 := hide (texts_readyN (fun i => L.getD (r + i) ByteArray.empty) tp (L.length - r) tc w6 (by omega) HN3.out HL26.out)
      go_wp2_with (first | (refine wpList_slice_run rfl 39 _ _ _ _ rfl (.slice vp0 L.length vc0) _ _ _ _ rfl rfl rfl rfl (HBK.out _) ?_) | fail)
      refine HT2.out.mono ?_
      rintro e w7 ⟨⟨bp, bc, rfl, hnb, hlb, hkb⟩, hb7⟩
      have HNB := hide hnb
      have HLB := hide hlb
      have HKB := hide hkb
      have HI7 := hide (HI6.out.below hb7)
      have HB67 := hide hb7
      have HB7 : Hid (Below w.heap.size w w7) := HB6.out.trans (hb7.mono HB6.out.size)
      have HL17 := hide ((HL16.out.below hb7).more hb7.size)
      have HLA7 := hide ((HLA.out.below hb7).more hb7.size)
      have HSZ : Hid (∀ i, i < L.length → (L.getD i ByteArray.empty).size ≤ maxLen) := fun i hi => by
        refine HLS.out _ ?_
        rw [List.getD_eq_getElem?_getD, List.getElem?_eq_getElem hi]
        exact List.getElem_mem hi
      clear hnb hlb hkb hb7 HT2
      have HBC := hide (blame_any F w.heap.size 8 sg (fun i => L.getD i ByteArray.empty) (fun i => L.getD (r + i) ByteArray.empty) ap bp r (L.length - r) ac bc bF bS w7 HI7.out.ring (fun k hk => (HI7.out.flt k hk).2) (HEF.out.below HB7.out) (HES.out.below HB7.out) HNA.out HNB.out HLA7.out HLB.out (by omega))
      have HGL : Hid (blameL sg 8 (glue (fun i => L.getD i ByteArray.empty) r (fun i => L.getD (r + i) ByteArray.empty)) (r + (L.length - r)) 8 = blameL sg 8 (fun i => L.getD i ByteArray.empty) L.length 8) := by
        unfold Hid
        rw [show r + (L.length - r) = L.length by omega]
        refine blameL_congr (fun i hi => ?_) 8
        unfold glue
        split
        · rfl
        · show L.getD (r + (i - r)) ByteArray.empty = _
          rw [show r + (i - r) = i by omega]
      obtain ⟨BL, hBL⟩ : ∃ l, l = blameL sg 8 (fun i => L.getD i ByteArray.empty) L.length 8 := ⟨_, rfl⟩
      have HBL := hide hBL
      clear hBL
      go_wp2_with fail
      refine HBC.out.mono ?_
      rintro e w8 ⟨xv, rfl, hxo, hb8⟩
      rw [HGL.out, ← HBL.out] at hxo
      unfold idV at hxo
      obtain ⟨xp, xc, rfl⟩ := own_slice hxo
      have HXO := hide hxo
      have HB78 := hide hb8
      have HI8 := hide (HI7.out.below hb8)
      have HB8 : Hid (Below w.heap.size w w8) := HB7.out.trans (hb8.mono HB7.out.size)
      have HB68 : Hid (Below w6.heap.size w6 w8) := HB67.out.trans (hb8.mono HB67.out.size)
      have HL18 := hide ((HL17.out.below hb8).more hb8.size)
      clear hxo hb8 HBC
      go_wp2_with (first | (refine wpList_slice_run rfl 39 _ _ _ _ rfl (.slice vp0 L.length vc0) _ _ _ _ rfl rfl rfl rfl (HFR.out _) ?_) | fail)
      refine (HKA.out w8 HB68.out).mono ?_
      rintro e wy ⟨rfl, hwy⟩
      have hwv := hwy.symm
      clear hwy
      subst hwv
      go_wp2_with (first | (refine wpList_slice_run rfl 39 _ _ _ _ rfl (.slice vp0 L.length vc0) _ _ _ _ rfl rfl rfl rfl (HBK.out _) ?_) | fail)
      refine (HKB.out w8 HB78.out).mono ?_
      rintro e wy ⟨rfl, hwy⟩
      have hwv := hwy.symm
      clear hwy
      subst hwv
      have HRB := hide (refBlame_any F w.heap.size 8 sg (fun i => L.getD i ByteArray.empty) vp0 L.length vc0 w8 HI8.out.ring (fun k hk => (HI8.out.flt k hk).2) (by unfold maxLen; omega) HL18.out HSZ.out)
      rw [← HBL.out] at HRB
      go_wp2_with fail
      refine HRB.out.mono ?_
      rintro e w9 ⟨yv, rfl, hyo, hb9⟩
      obtain ⟨yp, yc, rfl⟩ := own_slice hyo
      have HI9 := hide (HI8.out.below hb9)
      have HB9 : Hid (Below w.heap.size w w9) := HB8.out.trans (hb9.mono HB8.out.size)
      have HX9 := hide (own_blocks HXO.out (fun g _ hg => hb9.block g hg))
      have HYL := hide (own_ints hyo)
      have HXL := hide (own_ints HX9.out)
      have hbll : BL.length ≤ 8 := by rw [HBL.out]; exact blameL_len _ _ _ _ _
      clear hyo hb9 HRB
      have HSM := hide (same_any (fun i => ((BL.getD i 0 : Nat) : Int)) (fun i => ((BL.getD i 0 : Nat) : Int)) xp yp BL.length BL.length xc yc w9 (by unfold maxLen; omega) HXL.out HYL.out)
      go_wp2_with fail
      refine HSM.out.mono ?_
      rintro e w10 ⟨⟨o, rfl, ho⟩, hb10⟩
      obtain rfl : o = true := by simpa using ho
      have HI10 := hide (HI9.out.below hb10)
      have HB10 : Hid (Below w.heap.size w w10) := HB9.out.trans (hb10.mono HB9.out.size)
      clear ho hb10 HSM HL1 HL16 HL17 HL18 HLA HLB HLA7 HL2 HL26 HN1 HN2 HN3 HNA HNB HXO HX9 HYL HXL HI6 HI7 HI8 HI9 HB6 HB7 HB8 HB9 HB67 HB68 HB78 HFR HBK HKA HKB HSZ HGL HBL
      have HE1 : Hid (∀ W : World, Calls Tryd.prog 11 #[.agg #[.int .i64 3, .int .i64 0, .int .i64 0, .int .i64 5, .int .i64 0, .bool false, .string ⟨#[108, 97]⟩]] W fun e w' => e = .returned (.tuple #[.string voteA, .bool true]) ∧ Below W.heap.size W w') := fun W => refEncode_any 3 0 0 5 0 false ⟨#[108, 97]⟩ W (by decide +kernel) (by decide) (by decide)
      have HE2 : Hid (∀ W : World, Calls Tryd.prog 11 #[.agg #[.int .i64 3, .int .i64 0, .int .i64 0, .int .i64 5, .int .i64 0, .bool true, .string ⟨#[]⟩]] W fun e w' => e = .returned (.tuple #[.string voteN, .bool true]) ∧ Below W.heap.size W w') := fun W => refEncode_any 3 0 0 5 0 true ⟨#[]⟩ W (by decide +kernel) (by decide) (by decide)
      go_wp2_with fail
      refine (HE1.out _).mono ?_
      rintro e w11 ⟨rfl, hb11⟩
      have HI11 := hide (HI10.out.below hb11)
      have HB11 : Hid (Below w.heap.size w w11) := HB10.out.trans (hb11.mono HB10.out.size)
      clear hb11 HE1 HI10 HB10
      go_wp2_with fail
      refine (HE2.out _).mono ?_
      rintro e w12 ⟨rfl, hb12⟩
      have HI12 := hide (HI11.out.below hb12)
      have HB12 : Hid (Below w.heap.size w w12) := HB11.out.trans (hb12.mono HB11.out.size)
      clear hb12 HE2 HI11 HB11
      obtain ⟨kg, rfl, hck⟩ := keys_at HI12.out.keys 5 (by omega)
      have HSG := hide (sign_any F w.heap.size 8 (ks 5) 5 sg voteA w12 HI12.out.ring (by omega) (HI12.out.key 5 (by omega)).1 (by have := HSL.out 5; have := HLN.out; omega) (fun j hj => (HI12.out.flt j hj).2))
      go_wp2_with fail
      refine HSG.out.mono ?_
      rintro e w13 ⟨rfl, hsp⟩
      obtain ⟨⟨F4, hI13⟩, hb13⟩ := HI12.out.signed HB12.out.size hsp
      have HI13 := hide hI13
      have HB13 : Hid (Below w.heap.size w w13) := HB12.out.trans hb13
      have HSL4 : Hid ((signR sg 5 voteA 5).length ≤ ln + 1) := by
        unfold Hid signR
        split
        · rw [List.length_append]; have := HSL.out 5; simp; omega
        · have := HSL.out 5; omega
      clear hsp hI13 hb13 HSG hck HI12 HB12
      obtain ⟨kg2, e2, hck⟩ := keys_at HI13.out.keys 5 (by omega)
      cases e2
      have HSG := hide (sign_any F4 w.heap.size 8 (ks 5) 5 (signR sg 5 voteA) voteN w13 HI13.out.ring (by omega) (HI13.out.key 5 (by omega)).1 (by have := HSL4.out; have := HLN.out; omega) (fun j hj => (HI13.out.flt j hj).2))
      go_wp2_with fail
      refine HSG.out.mono ?_
      rintro e w14 ⟨rfl, hsp⟩
      obtain ⟨⟨F5, hI14⟩, hb14⟩ := HI13.out.signed HB13.out.size hsp
      have HI14 := hide hI14
      have HB14 : Hid (Below w.heap.size w w14) := HB13.out.trans hb14
      clear hsp hI14 hb14 HSG hck HI13 HB13
      have hba : Below w14.heap.size w14 ((w14.alloc (.cells #[.string voteA] 9)).alloc (.cells #[.string voteN] 9)) := ((Below.refl _ w14).alloc (Nat.le_refl _) _).alloc (by simp) _
      have HI15 := hide (HI14.out.below hba)
      have HB15 : Hid (Below w.heap.size w ((w14.alloc (.cells #[.string voteA] 9)).alloc (.cells #[.string voteN] 9))) := HB14.out.trans (hba.mono HB14.out.size)
      have HBL2 := hide (blame_any F5 w.heap.size 8 (signR (signR sg 5 voteA) 5 voteN) (fun _ => voteA) (fun _ => voteN) (some ⟨w14.heap.size, 0, none⟩) (some ⟨w14.heap.size + 1, 0, none⟩) 1 1 1 1 bF bS _ HI15.out.ring (fun k hk => (HI15.out.flt k hk).2) (HEF.out.below HB15.out) (HES.out.below HB15.out) (Or.inr ⟨_, _, rfl⟩) (Or.inr ⟨_, _, rfl⟩) (fun i hi => ⟨w14.heap.size, 0, rfl, by simp; omega, by
        obtain rfl : i = 0 := by omega
        refine (World.cell?_of_block (w := w14.alloc (.cells #[.string voteA] 9)) (a := ⟨w14.heap.size, 0, none⟩) (Below.heap_alloc _ _ _ (by simp))).trans ?_
        exact cell_of_row _ _ 0 _ _ _ (heap_alloc_new w14 _)⟩) (fun i hi => ⟨w14.heap.size + 1, 0, rfl, by simp, by
        obtain rfl : i = 0 := by omega
        have h := heap_alloc_new (w14.alloc (.cells #[.string voteA] 9)) (.cells #[.string voteN] 9)
        rw [World.size_alloc] at h
        exact cell_of_row _ _ 0 _ _ _ h⟩) (by omega))
      clear hba HI14 HB14
      go_wp2_with fail
      refine HBL2.out.mono ?_
      rintro e w16 ⟨zv, rfl, hzo, hb16⟩
      rw [five_blame] at hzo
      have HB16 : Hid (Below w.heap.size w w16) := HB15.out.trans (hb16.mono HB15.out.size)
      obtain ⟨zp, zc, rfl⟩ := own_slice hzo
      have HZL := hide (own_ints (l := [5]) hzo)
      clear hzo hb16 HBL2
      have hbz : Below w16.heap.size w16 (w16.alloc (.cells #[.int .i64 5] 3)) := (Below.refl _ w16).alloc (Nat.le_refl _) _
      have HSM := hide (same_any (fun i => (([5].getD i 0 : Nat) : Int)) (fun i => (([5].getD i 0 : Nat) : Int)) zp (some ⟨w16.heap.size, 0, none⟩) 1 1 zc 1 (w16.alloc (.cells #[.int .i64 5] 3)) (by unfold maxLen; omega) ((HZL.out.below hbz).more hbz.size) (fun i hi => ⟨w16.heap.size, 0, rfl, by simp, by
        obtain rfl : i = 0 := by omega
        exact cell_of_row _ _ 0 _ _ _ (heap_alloc_new w16 _)⟩))
      have HB17 : Hid (Below w.heap.size w (w16.alloc (.cells #[.int .i64 5] 3))) := HB16.out.trans (hbz.mono HB16.out.size)
      clear hbz
      go_wp2_with fail
      refine HSM.out.mono ?_
      rintro e w18 ⟨⟨o, rfl, ho⟩, hb18⟩
      obtain rfl : o = true := by simpa using ho
      have HB18 : Hid (Below w.heap.size w w18) := HB17.out.trans (hb18.mono HB17.out.size)
      clear ho hb18 HSM HB17
      go_wp2
      go_ret
      exact ⟨rfl, HB18.out⟩
    · have hkl : k < ln := by omega
      have HKL := hide hkl
      have hki : (k : Int) < ln := by omega
      have hkx : k ≤ 1048576 := by have := HLN.out; omega
      obtain ⟨b, o, rfl, hbB, hrg⟩ := HMS.out.below HB.out k hkl
      have HRG := hide hrg
      clear hrg
      clear hkn
      have HEN := hide (fun W => refEncode_any (ms k).k (ms k).h (ms k).r (ms k).f (ms k).v (ms k).nl (ms k).s W (HMO.out k hkl).1 (HMO.out k hkl).2.1 (HMO.out k hkl).2.2)
      go_wp2_with (refine wpList_load_mid rfl 28 _ rfl b (o + k * 7) rfl (ms k).cells.toList _ HRG.out Tryd.underlying28 rfl Tryd.sizeMsg7 ?_)
      refine (HEN.out _).mono ?_
      rintro e w3 ⟨rfl, hb3⟩
      have HI3 := hide (HI.out.below hb3)
      have HB3 : Hid (Below w.heap.size w w3) := HB.out.trans (hb3.mono HB.out.size)
      have HRG3 : Hid (w3.rangeAt b (o + k * 7) (ms k).cells.toList) := fun j v hv => (hb3.cell (p := ⟨b, o + k * 7 + j, none⟩) (by exact Nat.lt_of_lt_of_le hbB HB.out.size)).trans (HRG.out j v hv)
      obtain ⟨enc, henc⟩ : ∃ t, t = encS (ms k).k (ms k).h (ms k).r (ms k).f (ms k).v (ms k).nl (ms k).s := ⟨_, rfl⟩
      rw [← henc]
      clear hb3 HEN HI HB HRG
      cases hh : hasB (ms k).k (ms k).h (ms k).r (ms k).f (ms k).v (ms k).nl (ms k).s.size with
      | false =>
        go_wp2
        go_roundw
        case rel => exact ⟨k + 1, F, sg, L, HKL.out, by go_num, HI3.out, Nat.le_trans HLL.out (by omega), fun i => Nat.le_trans (HSL.out i) (by omega), HLS.out, HB3.out⟩
        case measure => have := HKL.out; simp [intOf]; omega
      | true =>
        have hfb := of_decide_eq_true hh
        obtain ⟨f, hf⟩ : ∃ f : Nat, (ms k).f = (f : Int) := ⟨(ms k).f.toNat, by omega⟩
        have hf8 : (f : Int) < 8 := by omega
        have hcf : w3.cell? ⟨b, o + k * 7 + 3, none⟩ = some (.int .i64 (f : Int)) := by rw [← hf]; exact HRG3.out 3 _ rfl
        have HES : Hid (enc.size ≤ 30) := by
          unfold Hid
          rw [henc, encS, if_pos hh]
          unfold frameOf
          rw [ByteArray.size_append, strOfNums_size]
          simp
          omega
        clear hh hfb henc
        obtain ⟨kg, rfl, hck⟩ := keys_at HI3.out.keys f (by omega)
        cases hbit : (bits BinOp.and IntKind.i64 (said / 2 ^ (k % 60)) 1 == 0) with
        | true =>
          have HSG := hide (sign_any F w.heap.size 8 (ks f) f sg enc w3 HI3.out.ring (by omega) (HI3.out.key f (by omega)).1 (by have := HSL.out f; omega) (fun j hj => (HI3.out.flt j hj).2))
          go_wp2_with fail
          refine HSG.out.mono ?_
          rintro e w4 ⟨rfl, hsp⟩
          obtain ⟨⟨F4, hI4⟩, hb4⟩ := HI3.out.signed HB3.out.size hsp
          have HI4 := hide hI4
          have HB4 : Hid (Below w.heap.size w w4) := HB3.out.trans hb4
          have HSL4 : Hid (∀ i, (signR sg f enc i).length ≤ k + 1) := fun i => by
            unfold signR
            split
            · rw [List.length_append]; have := HSL.out f; simp; omega
            · have := HSL.out i; omega
          clear hsp hI4 hb4 HSG
          have hwz : w.heap.size ≤ w4.heap.size := HB4.out.size
          have HRN2 := HRN.out
          have hlx : L.length ≤ 2097152 := by have := HLL.out; have := HRN.out; have := HLN.out; omega
          go_wp2_with (first | (at_builtin; refine wpList_append_at _ rfl _ _ 39 rfl w.heap.size 9 i9 (.string ByteArray.empty) 1 16 Tryd.underlying39 hi9 hz0 hz1 hz2 rfl (by decide) _ _ _ rfl (HI4.out.below ((Below.refl _ w4).alloc (Nat.le_refl _) (.cells #[.string enc] 9))).all ⟨w4.heap.size, 0, none⟩ 1 1 [.string enc] rfl rfl ?c1 ?c2 ?c3 ?c4 ?c5 ?_) | go_in)
          case c1 =>
            intro j u hj
            match j, hj with
            | 0, hj => simp at hj; subst hj; simp [Addr.add]
          case c2 => first | rfl | (intro u hu; simp at hu; subst hu; rfl)
          case c3 => unfold maxLen; omega
          case c4 => omega
          case c5 => first | omega | (simp; omega)
          intro v5 w5 hown5 hgrow5 hat5
          have HI5 := hide ((HI4.out.below ((Below.refl _ w4).alloc (Nat.le_refl _) (.cells #[.string enc] 9))).more (L' := L ++ [enc]) (by rw [List.length_append, List.map_append]; exact hown5) hgrow5 (by simpa using hat5))
          have HB5 : Hid (Below w.heap.size w w5) := (HB4.out.alloc hwz _).grown hgrow5 (by simp; omega) (fun k hk => (HI4.out.all.lt k hk).1)
          clear hown5 hgrow5 hat5
          go_wp2
          go_roundw
          case rel => exact ⟨k + 1, _, _, L ++ [enc], HKL.out, by go_num, HI5.out, by rw [List.length_append]; have := HLL.out; simp; omega, HSL4.out, fun t ht => by (rcases List.mem_append.1 ht with h | h; exact HLS.out t h; (rw [List.mem_singleton] at h; rw [h]; have := HES.out; unfold maxLen; omega)), HB5.out⟩
          case measure => have := HKL.out; simp [intOf]; omega
        | false =>
          have hwz : w.heap.size ≤ w3.heap.size := HB3.out.size
          have HRN2 := HRN.out
          have hlx : L.length ≤ 2097152 := by have := HLL.out; have := HRN.out; have := HLN.out; omega
          go_wp2_with (first | (at_builtin; refine wpList_append_at _ rfl _ _ 39 rfl w.heap.size 9 i9 (.string ByteArray.empty) 1 16 Tryd.underlying39 hi9 hz0 hz1 hz2 rfl (by decide) _ _ _ rfl (HI3.out.below ((Below.refl _ w3).alloc (Nat.le_refl _) (.cells #[.string enc] 9))).all ⟨w3.heap.size, 0, none⟩ 1 1 [.string enc] rfl rfl ?c1 ?c2 ?c3 ?c4 ?c5 ?_) | go_in)
          case c1 =>
            intro j u hj
            match j, hj with
            | 0, hj => simp at hj; subst hj; simp [Addr.add]
          case c2 => first | rfl | (intro u hu; simp at hu; subst hu; rfl)
          case c3 => unfold maxLen; omega
          case c4 => omega
          case c5 => first | omega | (simp; omega)
          intro v5 w5 hown5 hgrow5 hat5
          have HI5 := hide ((HI3.out.below ((Below.refl _ w3).alloc (Nat.le_refl _) (.cells #[.string enc] 9))).more (L' := L ++ [enc]) (by rw [List.length_append, List.map_append]; exact hown5) hgrow5 (by simpa using hat5))
          have HB5 : Hid (Below w.heap.size w w5) := (HB3.out.alloc hwz _).grown hgrow5 (by simp; omega) (fun k hk => (HI3.out.all.lt k hk).1)
          clear hown5 hgrow5 hat5
          go_wp2
          go_roundw
          case rel => exact ⟨k + 1, _, _, L ++ [enc], HKL.out, by go_num, HI5.out, by rw [List.length_append]; have := HLL.out; simp; omega, fun i => Nat.le_trans (HSL.out i) (by omega), fun t ht => by (rcases List.mem_append.1 ht with h | h; exact HLS.out t h; (rw [List.mem_singleton] at h; rw [h]; have := HES.out; unfold maxLen; omega)), HB5.out⟩
          case measure => have := HKL.out; simp [intOf]; omega

end Go.Proofs.YtcfjhbcpjpgodaaDoor
