/- Proved here: what the document's Accept answers and leaves. -/
import Derived.Test.YtcfjhbcpjpgodaaDoorCertPure
import Derived.Test.YtcfjhbcpjpgodaaDoorAccept
import Derived.Test.YtcfjhbcpjpgodaaDoorJ21
import Derived.Test.YtcfjhbcpjpgodaaDoorJ18
import Derived.BigQuiet
namespace Go.Proofs.YtcfjhbcpjpgodaaDoor
open Go.RowKit

/-- The document's client in block cb. -/
def RClientAt (w : World) (cb rb : Nat) (x : Nat → Int) (h : Int) : Prop := w.heap[cb]? = some (.cells (clientA rb x h) 75 (0, 0))
theorem RClientAt.height {w : World} {cb rb : Nat} {x : Nat → Int} {h : Int} (hc : RClientAt w cb rb x h) : w.cell? ⟨cb, 35, none⟩ = some (.int .i64 h) := by
  rw [cell_of_row w cb 35 _ _ _ hc]
  simp [clientA, regL]
theorem RClientAt.ring {w : World} {cb rb : Nat} {x : Nat → Int} {h : Int} (hc : RClientAt w cb rb x h) : w.cell? ⟨cb, 0, none⟩ = some (.pointer (some ⟨rb, 0, none⟩)) := by
  rw [cell_of_row w cb 0 _ _ _ hc]
  simp [clientA]
theorem RClientAt.reg {w : World} {cb rb : Nat} {x : Nat → Int} {h : Int} (hc : RClientAt w cb rb x h) : w.rangeAt cb 1 (regL x) := fun j v hv => by
  have hj : j < 34 := by have := (List.getElem?_eq_some_iff.1 hv).1; simpa [regL] using this
  rw [cell_of_row w cb (1 + j) _ _ _ hc, ← hv]
  unfold clientA
  rw [List.getElem?_toArray, Nat.add_comm 1 j, List.getElem?_cons_succ, List.getElem?_append_left (by rw [regL_length]; exact hj)]
theorem RClientAt.keep {w w' : World} {cb rb : Nat} {x : Nat → Int} {h : Int} (hc : RClientAt w cb rb x h) (hb : Below w.heap.size w w') : RClientAt w' cb rb x h := by
  unfold RClientAt at hc ⊢
  exact blk hc hb

/-- What the document's Accept answers and leaves. -/
def RAcceptP (cb rb n : Nat) (sg : Nat → List ByteArray) (x : Nat → Int) (h : Int) (block : ByteArray) (fr : Nat → ByteArray) (m : Nat) (w : World) (e : Ending) (w' : World) : Prop :=
  (∃ c : Int, e = .returned (.int .i64 c) ∧ Below w.heap.size w w' ∧
    ((c = 12 ∧ (behindR x block).2 = false) ∨ (c = 2 ∧ (behindR x block).2 = true ∧ ∃ i, i < m ∧ decOk (fr i) = false) ∨
     (c = 3 ∧ (behindR x block).2 = true ∧ (∀ i, i < m → decOk (fr i) = true) ∧ ∃ i, i < m ∧ signedB sg n (decV (fr i)).f (fr i) = false) ∨
     (c = 10 ∧ (behindR x block).2 = true ∧ (∀ i, i < m → decOk (fr i) = true) ∧ (∀ i, i < m → signedB sg n (decV (fr i)).f (fr i) = true) ∧ (h < 12 → ¬ CertOk x h block (fun i => decV (fr i)) m)))) ∨
  (e = .returned (.int .i64 0) ∧ (behindR x block).2 = true ∧ (∀ i, i < m → decOk (fr i) = true) ∧ (∀ i, i < m → signedB sg n (decV (fr i)).f (fr i) = true) ∧ CertOk x h block (fun i => decV (fr i)) m ∧
    RClientAt w' cb rb (behindR x block).1 (h + 1) ∧ ButP cb w w')

theorem powS_bound (x : Nat → Int) (ms : Nat → MsgV) (k : Nat) (h : Dom x) : 0 ≤ powS x ms k ∧ powS x ms k ≤ 9 * k := by
  induction k with
  | zero => simp [powS]
  | succ k ih =>
    have h2 := h (ms k).f.toNat
    simp only [powS]
    omega
theorem regL_get (x : Nat → Int) (f : Nat) (h : f < 34) : (regL x)[f]? = some (.int .i64 (x f)) := by simp [regL, h]
theorem decV_vote {t : ByteArray} (h : decOk t = true) (hk : (decV t).k = 3) : (decV t).v = 0 := by
  unfold decV at hk ⊢
  rw [if_pos h] at hk ⊢
  simp only at hk ⊢
  unfold vOf
  rw [if_neg (by omega)]

theorem range_stepD (fr : Nat → ByteArray) (k : Nat) : (List.range (k + 1)).map (fun i => decV (fr i)) = (List.range k).map (fun i => decV (fr i)) ++ [decV (fr k)] := by rw [List.range_succ, List.map_append]; rfl

set_option maxRecDepth 100000 in
set_option maxHeartbeats 25600000 in
theorem refAccept_any (F : Nat → Prop) (cb rb n : Nat) (sg : Nat → List ByteArray) (x : Nat → Int) (h : Int) (block : ByteArray) (fr : Nat → ByteArray) (p : Option Addr) (m cap : Nat) (w : World) (hx : Dom x) (hh0 : 0 ≤ h) (hh : h ≤ 1000000000) (hs : block.size < 4294967281)
    (hc : RClientAt w cb rb x h) (hr : RingI F rb n sg w) (hlt : ∀ k, F k → k < w.heap.size) (hl : Lies w w.heap.size p m (fun i => .string (fr i))) (hsz : ∀ i, i < m → (fr i).size ≤ maxLen) (hm : m ≤ 1000000000) :
    Calls Tryd.prog 31 #[.pointer (some ⟨cb, 0, none⟩), .string block, .slice p m cap] w (RAcceptP cb rb n sg x h block fr m w) := by
  obtain ⟨iM, hiM, hy0, hy1, hy2⟩ := info_parts Tryd.infoMsg
  have HX := hide hx
  have HC := hide hc
  have HR := hide hr
  have HLT := hide hlt
  have HL := hide hl
  have HFS := hide hsz
  have HM := hide hm
  have HSZ := hide hs
  have hcbl : cb < w.heap.size := row_lt0 hc
  clear hx hc hr hlt hl hm hs hsz
  obtain ⟨z, hz⟩ : ∃ z, z = behindR x block := ⟨_, rfl⟩
  obtain ⟨y, o⟩ := z
  have HZ := hide hz
  have z0 := regA_zero
  have HBH := hide (behind_any x block w HX.out HSZ.out)
  rw [← hz] at HBH
  clear hz
  have hmx : (m : Int) ≤ 9223372036854775807 := by have := HM.out; omega
  cases o with
  | false =>
    go_enter Tryd.func31, Tryd.ntmps31
    go_wp2_with (first | (refine wpList_load_mid rfl 54 _ rfl cb 1 rfl (regL x) _ HC.out.reg Tryd.underlying54 rfl (by rw [Tryd.sizeReg]; simp [regL]) ?_) | fail)
    refine HBH.out.mono ?_
    rintro e w1 ⟨rfl, hb1⟩
    have HB1 := hide hb1
    clear hb1
    go_wp2_with (first | (refine wpList_store_reg rfl 54 _ _ rfl w1.heap.size y rfl rfl 54 (regA reg0) (heap_alloc_new w1 _) (regA_size _) Tryd.sizeReg ?_; intro w2 hq2 ho2; have HQ2 := hide hq2; have HB2 : Hid (Below w.heap.size w w2) := (HB1.out.alloc HB1.out.size _).trans (ho2.below HB1.out.size); clear hq2 ho2) | fail)
    go_ret
    exact Or.inl ⟨12, rfl, HB2.out, Or.inl ⟨rfl, by rw [← HZ.out]⟩⟩
  | true =>
    have HG : Hid ((behindR x block).2 = true) := by unfold Hid; rw [← HZ.out]
    go_enter Tryd.func31, Tryd.ntmps31
    go_wp2_with (first | (refine wpList_load_mid rfl 54 _ rfl cb 1 rfl (regL x) _ HC.out.reg Tryd.underlying54 rfl (by rw [Tryd.sizeReg]; simp [regL]) ?_) | fail)
    refine HBH.out.mono ?_
    rintro e w1 ⟨rfl, hb1⟩
    have HB1 := hide hb1
    clear hb1 HBH
    go_wp2_with (first | (refine wpList_store_reg rfl 54 _ _ rfl w1.heap.size y rfl rfl 54 (regA reg0) (heap_alloc_new w1 _) (regA_size _) Tryd.sizeReg ?_; intro w2 hq2 ho2; have HQ2 := hide hq2; have HB2 : Hid (Below w.heap.size w w2) := (HB1.out.alloc HB1.out.size _).trans (ho2.below HB1.out.size); clear hq2 ho2) | fail)
    go_loopw [9, 10, 11, 12, 13, 14] (fun v sv i _ _ _ wr => ∃ (k : Nat) (sb : Bool), k ≤ m ∧ i = .int .i64 k ∧ sv = .bool sb ∧ (∀ i, i < k → decOk (fr i) = true) ∧ (sb = true ↔ ∀ i, i < k → signedB sg n (decV (fr i)).f (fr i) = true) ∧ wr.ownsRow w.heap.size 28 7 v k (msgL ((List.range k).map fun i => decV (fr i))) ∧ wr.heap[w1.heap.size]? = some (.cells (regA y) 54 (0, 0)) ∧ Below w.heap.size w wr) (fun _ _ i _ _ _ _ => m - (intOf i).toNat)
    case atStart => exact ⟨0, true, Nat.zero_le _, rfl, rfl, fun i hi => by omega, ⟨fun _ i hi => by omega, fun _ => rfl⟩, World.ownsRow_nil _ _ _ _, HQ2.out, HB2.out⟩
    case round =>
      clear HQ2 HB2
      obtain ⟨k, sb, hk, rfl, rfl, hok, hsb, hv, hq, hb⟩ := hrel
      have HOK := hide hok
      have HSB := hide hsb
      have HV := hide hv
      have HQ := hide hq
      have HB := hide hb
      clear hok hsb hv hq hb
      by_cases hkm : k = m
      · subst hkm
        cases sb with
        | false =>
          have HNS : Hid (∃ i, i < k ∧ signedB sg n (decV (fr i)).f (fr i) = false) := by
            refine Classical.byContradiction fun hno => ?_
            have := HSB.out.2 (fun i hi => by
              cases e : signedB sg n (decV (fr i)).f (fr i) with
              | true => rfl
              | false => exact absurd ⟨i, hi, e⟩ hno)
            simp at this
          go_wp2
          go_ret
          exact Or.inl ⟨3, rfl, HB.out, Or.inr (Or.inr (Or.inl ⟨rfl, HG.out, HOK.out, HNS.out⟩))⟩
        | true =>
          have HSA : Hid (∀ i, i < k → signedB sg n (decV (fr i)).f (fr i) = true) := HSB.out.1 (by trivial)
          obtain ⟨mp, mc, rfl, hms⟩ := own_msgsD HV.out
          have HMS := hide hms
          obtain ⟨w8, hw8⟩ : ∃ z, z = wr := ⟨_, rfl⟩
          subst hw8
          clear hms HV HSB
          have hkx : k ≤ 1000000000 := HM.out
          go_wp2
          go_loopw [15, 16, 17, 18] (fun pw i _ _ w9 => ∃ (j : Nat) (b : Nat → Bool), j ≤ k ∧ i = .int .i64 j ∧ pw = .int .i64 (powS x (fun i => decV (fr i)) j) ∧ CertTo (fun i => decV (fr i)) h block j b ∧ Below w8.heap.size w8 w9) (fun _ i _ _ _ => k - (intOf i).toNat)
          case atStart => exact ⟨0, fun _ => false, Nat.zero_le _, rfl, rfl, ⟨fun i hi => by omega, fun i j hi hj => by omega, fun id _ => ⟨fun h => (by cases h), fun ⟨i, hi, _⟩ => (by omega)⟩⟩, Below.refl _ _⟩
          case round =>
            obtain ⟨w9, hw9⟩ : ∃ z, z = wr := ⟨_, rfl⟩
            subst hw9
            obtain ⟨j, b, hj, rfl, rfl, hct, hb9⟩ := hrel
            have HCT := hide hct
            have HB89 := hide hb9
            have HB9 : Hid (Below w.heap.size w w9) := HB.out.trans (hb9.mono HB.out.size)
            have HC9 := hide (HC.out.keep HB9.out)
            have HPB := powS_bound x (fun i => decV (fr i)) j HX.out
            clear hct hb9
            by_cases hjk : j = k
            · subst hjk
              have hsb := sumTo_bound x 8 (fun i _ => HX.out i)
              have HPW := hide (HCT.out.power x (fun i hi => by have := decV_ok (HOK.out i hi); omega))
              have HT2 := hide (fun V => refTotal x V (fun i _ => HX.out i))
              have HQ9 := hide (blk HQ.out HB89.out)
              obtain ⟨P, hP⟩ : ∃ P, P = powS x (fun i => decV (fr i)) j := ⟨_, rfl⟩
              obtain ⟨T, hTt⟩ : ∃ T, T = sumTo x 8 := ⟨_, rfl⟩
              rw [← hP] at HPB HPW ⊢
              rw [← hTt] at hsb HT2
              have HTT := hide hTt
              clear hP hTt
              have hpb0 : 0 ≤ P := HPB.1
              have hpb1 : P ≤ 9000000000 := by have := HPB.2; omega
              have hcond : 3 * P ≤ 2 * T ↔ ¬ CertOk x h block (fun i => decV (fr i)) j := by
                constructor
                · rintro hle ⟨b', hct', hm'⟩
                  have h1 := of_decide_eq_true hm'
                  rw [← HTT.out, ← powB_congr x 8 (HCT.out.unique hct'), ← HPW.out] at h1
                  omega
                · intro hno
                  refine Classical.byContradiction fun hgt => hno ⟨b, HCT.out, decide_eq_true ?_⟩
                  rw [← HTT.out, ← HPW.out]
                  omega
              have HCOND := hide hcond
              have hch : w9.cell? ⟨cb, 35, none⟩ = some (.int .i64 h) := HC9.out.height
              clear hcond HPB
              go_wp2_with (first | (refine wpList_load_mid rfl 54 _ rfl cb 1 rfl (regL x) _ HC9.out.reg Tryd.underlying54 rfl (by rw [Tryd.sizeReg]; simp [regL]) ?_) | fail)
              refine (HT2.out _).mono ?_
              rintro e w10 ⟨rfl, hb10⟩
              have HB10 : Hid (Below w.heap.size w w10) := HB9.out.trans (hb10.mono HB9.out.size)
              have HC10 := hide (HC.out.keep HB10.out)
              have HQ10 := hide (blk HQ9.out hb10)
              have hch2 : w10.cell? ⟨cb, 35, none⟩ = some (.int .i64 h) := HC10.out.height
              clear hb10 hch
              by_cases hle : 3 * P ≤ 2 * T
              · have HNO := hide (HCOND.out.1 hle)
                go_wp2
                go_ret
                exact Or.inl ⟨10, rfl, HB10.out, Or.inr (Or.inr (Or.inr ⟨rfl, HG.out, HOK.out, HSA.out, fun _ => HNO.out⟩))⟩
              · have HYES : Hid (CertOk x h block (fun i => decV (fr i)) j) := Classical.byContradiction fun hno => hle (HCOND.out.2 hno)
                have hgt : 2 * T < 3 * P := by omega
                have hleb : decide (3 * P ≤ 2 * T) = false := decide_eq_false hle
                clear hle
                by_cases h12 : h = 12
                · subst h12
                  go_wp2
                  go_ret
                  exact Or.inl ⟨10, rfl, HB10.out, Or.inr (Or.inr (Or.inr ⟨rfl, HG.out, HOK.out, HSA.out, fun hlt => absurd hlt (by decide)⟩))⟩
                · have hhb : (h == 12) = false := by simpa using h12
                  clear h12
                  go_wp2_with (first | (refine wpList_load_reg rfl 54 _ rfl w1.heap.size rfl 54 y _ HQ10.out Tryd.underlying54 rfl Tryd.sizeReg ?_) | (refine wpList_store_midG rfl 54 _ _ rfl cb 1 (regA y) rfl rfl 75 _ HC10.out (by rw [clientA_size, regA_size]; decide) (regA_one y) (by rw [regA_size]; exact Tryd.sizeReg) ?_; intro w11 hq11 ho11; rw [clientA_reg] at hq11; have HC11 : Hid (RClientAt w11 cb rb y h) := hq11; have hch11 : w11.cell? ⟨cb, 35, none⟩ = some (.int .i64 h) := HC11.out.height; have hcf11 : w11.frozen? ⟨cb, 35, none⟩ = false := frozen_row HC11.out 35; have HO11 := hide ho11; clear hq11 ho11) | fail)
                  go_ret
                  refine Or.inr ⟨rfl, HG.out, HOK.out, HSA.out, HYES.out, ?_, ?_⟩
                  · have h5 := HC11.out
                    unfold RClientAt at h5 ⊢
                    rw [← HZ.out, ← clientA_height rb y h (h + 1)]
                    simp [World.setCell, Array.getElem?_modify, h5]
                  · have hon := only_setCell w11 cb 35 (.int .i64 (h + 1))
                    refine ⟨?_, ?_, ?_, ?_, fun k hk hne => ?_⟩
                    · rw [hon.os, HO11.out.os, HB10.out.os]
                    · rw [hon.tape, HO11.out.tape, HB10.out.tape]
                    · rw [hon.output, HO11.out.output, HB10.out.output]
                    · rw [hon.size, HO11.out.size]; exact HB10.out.size
                    · rw [hon.block k hne, HO11.out.block k hne, HB10.out.block k hk]
            · have hlt : j < k := by omega
              have hlt2 : (j : Int) < k := by omega
              have h0n : 0 < k := by omega
              have HJ := hide hlt
              obtain ⟨pm, om, rfl, hpm, hrg⟩ := HMS.out.below HB89.out j hlt
              obtain ⟨pm', om', e0, _, hrg0⟩ := HMS.out.below HB89.out 0 h0n
              cases e0
              obtain ⟨r0, hr0⟩ : ∃ r, r = (decV (fr 0)).r := ⟨_, rfl⟩
              have c20 : w9.cell? ⟨pm, om + 2, none⟩ = some (.int .i64 r0) := by rw [hr0]; have := hrg0 2 _ rfl; simpa using this
              have HR0 := hide hr0
              obtain ⟨mm, hmm⟩ : ∃ y, y = decV (fr j) := ⟨_, rfl⟩
              simp only [← hmm] at hrg
              have hfb := decV_ok (HOK.out j hlt)
              have hvt := fun hk3 => decV_vote (HOK.out j hlt) hk3
              rw [← hmm] at hfb hvt
              obtain ⟨f, hfe⟩ : ∃ f : Nat, mm.f = (f : Int) := ⟨mm.f.toNat, by omega⟩
              obtain ⟨K, H, R, Fm, V, nl, s⟩ := mm
              have hfm : Fm = (f : Int) := hfe
              subst hfm
              have HMM := hide hmm
              have HRG := hide hrg
              have HVT := hide hvt
              have hfi : (f : Int) < 8 := by simp only at hfb; omega
              have hpm9 : pm < w9.heap.size := Nat.lt_of_lt_of_le hpm HB89.out.size
              have hcb9 : cb < w9.heap.size := Nat.lt_of_lt_of_le hcbl HB9.out.size
              clear hrg hrg0 hr0 hmm hfb hvt hfe hjk hlt
              go_wp2_with (first | (refine wpList_load_mid rfl 28 _ rfl pm (om + j * 7) rfl _ _ HRG.out Tryd.underlying28 rfl Tryd.sizeMsg ?_) | (refine wpList_store_new rfl 28 _ _ rfl w9 #[.int .i64 K, .int .i64 H, .int .i64 R, .int .i64 (f : Int), .int .i64 V, .bool nl, .string s] rfl rfl 28 _ rfl (by simp [Value.oneCell']) Tryd.sizeMsg ?_; intro w10 hq10 hb10 hz10; have HQ10 := hide hq10; have HB910 := hide hb10; have HZ10 := hide hz10; clear hq10 hb10 hz10) | fail)
              have HB10 : Hid (Below w.heap.size w w10) := HB9.out.trans (HB910.out.mono HB9.out.size)
              have HB810 : Hid (Below w8.heap.size w8 w10) := HB89.out.trans (HB910.out.mono HB89.out.size)
              have HC10 := hide (HC.out.keep HB10.out)
              have a0 : w10.cell? ⟨w9.heap.size, 0, none⟩ = some (.int .i64 K) := cell_of_row w10 _ 0 _ _ _ HQ10.out
              have a1 : w10.cell? ⟨w9.heap.size, 1, none⟩ = some (.int .i64 H) := cell_of_row w10 _ 1 _ _ _ HQ10.out
              have a2 : w10.cell? ⟨w9.heap.size, 2, none⟩ = some (.int .i64 R) := cell_of_row w10 _ 2 _ _ _ HQ10.out
              have a3 : w10.cell? ⟨w9.heap.size, 3, none⟩ = some (.int .i64 (f : Int)) := cell_of_row w10 _ 3 _ _ _ HQ10.out
              have a5 : w10.cell? ⟨w9.heap.size, 5, none⟩ = some (.bool nl) := cell_of_row w10 _ 5 _ _ _ HQ10.out
              have a6 : w10.cell? ⟨w9.heap.size, 6, none⟩ = some (.string s) := cell_of_row w10 _ 6 _ _ _ HQ10.out
              have ah : w10.cell? ⟨cb, 35, none⟩ = some (.int .i64 h) := HC10.out.height
              have ar : w10.cell? ⟨pm, om + 2, none⟩ = some (.int .i64 r0) := (HB910.out.cell (p := ⟨pm, om + 2, none⟩) (by exact hpm9)).trans c20
              clear c20 HPB
              by_cases k1 : K = 3
              · subst k1
                cases nl with
                | true =>
                  have HNO : Hid (¬ CertOk x h block (fun i => decV (fr i)) k) := by
                    rintro ⟨b', hct', _⟩
                    have e := hct'.want j HJ.out
                    simp only [← HMM.out, wantM, MsgV.mk.injEq] at e
                    exact absurd e.2.2.2.2.2.1 (by decide)
                  go_wp2_with fail
                  go_quiet (fail)
                  all_goals go_wp2
                  go_ret
                  exact Or.inl ⟨10, rfl, below_drewN HB10.out _, Or.inr (Or.inr (Or.inr ⟨rfl, HG.out, HOK.out, HSA.out, fun _ => HNO.out⟩))⟩
                | false =>
                  by_cases k3 : s = block
                  · have k3s := k3.symm
                    subst k3s
                    by_cases k4 : H = h
                    · have k4s := k4.symm
                      subst k4s
                      by_cases k5 : R = r0
                      · have k5s := k5.symm
                        subst k5s
                        have HW : Hid (decV (fr j) = wantM h (decV (fr 0)).r block (decV (fr j)).f) := by
                          unfold Hid
                          rw [← HMM.out, ← HR0.out]
                          unfold wantM
                          simp only
                          rw [HVT.out rfl]
                        have HPE : Hid (powS x (fun i => decV (fr i)) (j + 1) = powS x (fun i => decV (fr i)) j + x f) := by
                          show powS x (fun i => decV (fr i)) j + x (decV (fr j)).f.toNat = _
                          rw [← HMM.out]
                          simp
                        have hpb := powS_bound x (fun i => decV (fr i)) j HX.out
                        have hp0 := hpb.1
                        have hp1 : powS x (fun i => decV (fr i)) j ≤ 9000000000 := by have := hpb.2; omega
                        have hxf := HX.out f
                        clear hpb
                        go_wp2_with fail
                        go_quiet (fail)
                        rename_i nq
                        obtain ⟨w11, hw11⟩ : ∃ z, z = w10.drewN nq := ⟨_, rfl⟩
                        have HB1011 : Hid (Below w10.heap.size w10 w11) := by unfold Hid; rw [hw11]; exact below_drewN (Below.refl _ w10) nq
                        rw [← hw11]
                        have hz10 : w9.heap.size < w10.heap.size := by have := HZ10.out; omega
                        have HB811 : Hid (Below w8.heap.size w8 w11) := HB810.out.trans (HB1011.out.mono HB810.out.size)
                        have HB11 : Hid (Below w.heap.size w w11) := HB.out.trans (HB811.out.mono HB.out.size)
                        have d3 : w11.cell? ⟨w9.heap.size, 3, none⟩ = some (.int .i64 (f : Int)) := (HB1011.out.cell (p := ⟨w9.heap.size, 3, none⟩) (by exact hz10)).trans a3
                        have hz11 : w9.heap.size < w11.heap.size := World.block_lt_of_cell? _ _ d3
                        have HC11 := hide (HC.out.keep HB11.out)
                        have df : w11.cell? ⟨cb, 1 + f, none⟩ = some (.int .i64 (x f)) := HC11.out.reg f _ (regL_get x f (by omega))
                        have hcb11 : cb < w11.heap.size := World.block_lt_of_cell? _ _ df
                        have HMS11 := hide (HMS.out.below HB811.out)
                        clear hw11 a0 a1 a2 a3 a5 a6 ah ar
                        go_wp2
                        go_loopw [18] (fun q wq => ∃ c : Nat, c ≤ j ∧ q = .int .i64 c ∧ (∀ c', c' < c → (decV (fr c')).f ≠ (f : Int)) ∧ Below w11.heap.size w11 wq) (fun q _ => j - (intOf q).toNat)
                        case atStart => exact ⟨0, Nat.zero_le _, rfl, fun c hc => by omega, Below.refl _ _⟩
                        case round =>
                          obtain ⟨wq, hwq⟩ : ∃ z, z = wr := ⟨_, rfl⟩
                          subst hwq
                          obtain ⟨c, hcj, rfl, hne, hbq⟩ := hrel
                          have HNE := hide hne
                          have HBQ := hide hbq
                          have e3 : wq.cell? ⟨w9.heap.size, 3, none⟩ = some (.int .i64 (f : Int)) := (hbq.cell (p := ⟨w9.heap.size, 3, none⟩) (by exact hz11)).trans d3
                          have ef : wq.cell? ⟨cb, 1 + f, none⟩ = some (.int .i64 (x f)) := (hbq.cell (p := ⟨cb, 1 + f, none⟩) (by exact hcb11)).trans df
                          have hjx : j ≤ 1000000000 := by omega
                          clear hne hbq
                          by_cases hce : c = j
                          · subst hce
                            have hge : ¬ (c : Int) < c := by omega
                            have HBF : Hid (b f = false) := by
                              unfold Hid
                              cases e : b f with
                              | false => rfl
                              | true =>
                                obtain ⟨i, hi, h1⟩ := (HCT.out.who f (by omega)).1 e
                                exact absurd h1 (HNE.out i hi)
                            go_wp2_with fail
                            go_quiet (fail)
                            all_goals go_wp2
                            go_roundw
                            case rel => exact ⟨c + 1, yesB b f, HJ.out, by go_num, by rw [HPE.out], HCT.out.step HW.out (by simp only [← HMM.out]) (by omega) HBF.out, below_drewN (HB811.out.trans (HBQ.out.mono HB811.out.size)) _⟩
                            case measure => have := HJ.out; simp [intOf]; omega
                          · have hcl : c < j := by omega
                            have hcl2 : (c : Int) < j := by omega
                            have HCL := hide hcl
                            obtain ⟨p2, o2, e2, hp2, hrg2⟩ := HMS11.out c (by have := HJ.out; omega)
                            cases e2
                            obtain ⟨fc, hfc⟩ : ∃ g, g = (decV (fr c)).f := ⟨_, rfl⟩
                            have g3 : wq.cell? ⟨pm, om + c * 7 + 3, none⟩ = some (.int .i64 fc) := by
                              rw [hfc]
                              exact (HBQ.out.cell (p := ⟨pm, om + c * 7 + 3, none⟩) (by exact Nat.lt_of_lt_of_le hp2 HB811.out.size)).trans (hrg2 3 _ rfl)
                            have hck2 : (c : Int) < k := by have := HJ.out; omega
                            have HFC := hide hfc
                            clear hrg2 hce hcl hfc
                            by_cases heq : fc = (f : Int)
                            · have heb : (fc == (f : Int)) = true := by simpa using heq
                              have HNO : Hid (¬ CertOk x h block (fun i => decV (fr i)) k) := by
                                rintro ⟨b', hct', _⟩
                                refine hct'.apart c j HCL.out HJ.out ?_
                                simp only [← HMM.out, ← HFC.out]
                                exact heq
                              clear heq
                              go_wp2_with fail
                              go_quiet (fail)
                              all_goals go_wp2
                              go_ret
                              exact Or.inl ⟨10, rfl, below_drewN (HB11.out.trans (HBQ.out.mono HB11.out.size)) _, Or.inr (Or.inr (Or.inr ⟨rfl, HG.out, HOK.out, HSA.out, fun _ => HNO.out⟩))⟩
                            · have heb : (fc == (f : Int)) = false := by simpa using heq
                              have HEQ := hide heq
                              clear heq
                              go_wp2_with fail
                              go_quiet (fail)
                              all_goals go_wp2
                              go_roundw
                              case rel => exact ⟨c + 1, HCL.out, by go_num, fun c' hc' => (by by_cases e : c' = c; (rw [e, ← HFC.out]; exact HEQ.out); exact HNE.out c' (by omega)), below_drewN HBQ.out _⟩
                              case measure => have := HCL.out; simp [intOf]; omega
                      · have b5 : (R == r0) = false := by simpa using k5
                        have b5' : (R != r0) = true := by simpa using k5
                        have HK5 := hide k5
                        clear k5
                        have HNO : Hid (¬ CertOk x h block (fun i => decV (fr i)) k) := by
                          rintro ⟨b', hct', _⟩
                          have e := hct'.want j HJ.out
                          simp only [← HMM.out, wantM, MsgV.mk.injEq] at e
                          exact HK5.out (by rw [HR0.out]; exact e.2.2.1)
                        go_wp2_with fail
                        go_quiet (fail)
                        all_goals go_wp2
                        go_ret
                        exact Or.inl ⟨10, rfl, below_drewN HB10.out _, Or.inr (Or.inr (Or.inr ⟨rfl, HG.out, HOK.out, HSA.out, fun _ => HNO.out⟩))⟩
                    · have b4 : (H == h) = false := by simpa using k4
                      have b4' : (H != h) = true := by simpa using k4
                      have HK4 := hide k4
                      clear k4
                      have HNO : Hid (¬ CertOk x h block (fun i => decV (fr i)) k) := by
                        rintro ⟨b', hct', _⟩
                        have e := hct'.want j HJ.out
                        simp only [← HMM.out, wantM, MsgV.mk.injEq] at e
                        exact HK4.out e.2.1
                      go_wp2_with fail
                      go_quiet (fail)
                      all_goals go_wp2
                      go_ret
                      exact Or.inl ⟨10, rfl, below_drewN HB10.out _, Or.inr (Or.inr (Or.inr ⟨rfl, HG.out, HOK.out, HSA.out, fun _ => HNO.out⟩))⟩
                  · have b3 := text_ne k3
                    have HK3 := hide k3
                    clear k3
                    have HNO : Hid (¬ CertOk x h block (fun i => decV (fr i)) k) := by
                      rintro ⟨b', hct', _⟩
                      have e := hct'.want j HJ.out
                      simp only [← HMM.out, wantM, MsgV.mk.injEq] at e
                      exact HK3.out e.2.2.2.2.2.2
                    go_wp2_with fail
                    go_quiet (fail)
                    all_goals go_wp2
                    go_ret
                    exact Or.inl ⟨10, rfl, below_drewN HB10.out _, Or.inr (Or.inr (Or.inr ⟨rfl, HG.out, HOK.out, HSA.out, fun _ => HNO.out⟩))⟩
              · have b1 : (K == 3) = false := by simpa using k1
                have b1' : (K != 3) = true := by simpa using k1
                have HK1 := hide k1
                clear k1
                have HNO : Hid (¬ CertOk x h block (fun i => decV (fr i)) k) := by
                  rintro ⟨b', hct', _⟩
                  have e := hct'.want j HJ.out
                  simp only [← HMM.out, wantM, MsgV.mk.injEq] at e
                  exact HK1.out e.1
                go_wp2_with fail
                go_quiet (fail)
                all_goals go_wp2
                go_ret
                exact Or.inl ⟨10, rfl, below_drewN HB10.out _, Or.inr (Or.inr (Or.inr ⟨rfl, HG.out, HOK.out, HSA.out, fun _ => HNO.out⟩))⟩
      · have hlt : k < m := by omega
        have hlt2 : (k : Int) < m := by omega
        have HK := hide hlt
        have hkx : k ≤ 1000000000 := by have := HM.out; omega
        obtain ⟨pb, po, rfl, hpb, hc⟩ := HL.out k hlt
        obtain ⟨t, ht⟩ : ∃ t, t = fr k := ⟨_, rfl⟩
        have hcr : wr.cell? ⟨pb, po + k, none⟩ = some (.string t) := by rw [ht]; exact (HB.out.cell (p := ⟨pb, po + k, none⟩) (by exact hpb)).trans hc
        have HT := hide ht
        have HD := hide (refDecode_at t wr (by rw [ht]; exact HFS.out k hlt))
        clear hc ht hkm
        cases hd : decOk t with
        | false =>
          have HDN : Hid (decOk (fr k) = false) := by unfold Hid; rw [← HT.out]; exact hd
          rw [hd, decV_no hd] at HD
          unfold MsgV.cells msg0 at HD
          clear hd
          go_wp2_with fail
          refine HD.out.mono ?_
          rintro e w3 ⟨rfl, hb3⟩
          have HBW : Hid (Below w.heap.size w w3) := HB.out.trans (hb3.mono HB.out.size)
          have hws : w.heap.size ≤ w3.heap.size := HBW.out.size
          clear hb3
          go_wp2_with (first | (refine wpList_store_new rfl 28 _ _ rfl w3 #[.int .i64 0, .int .i64 0, .int .i64 0, .int .i64 0, .int .i64 0, .bool false, .string ⟨#[]⟩] rfl rfl 28 _ rfl (by simp [Value.oneCell']) Tryd.sizeMsg ?_; intro w4 hq4 hb4 hz4; have HB4 := hide hb4; clear hq4 hb4 hz4) | fail)
          go_ret
          exact Or.inl ⟨2, rfl, HBW.out.trans (HB4.out.mono hws), Or.inr (Or.inl ⟨rfl, HG.out, k, HK.out, HDN.out⟩)⟩
        | true =>
          have HDY : Hid (decOk (fr k) = true) := by unfold Hid; rw [← HT.out]; exact hd
          obtain ⟨mm, hmm⟩ : ∃ y, y = decV t := ⟨_, rfl⟩
          rw [hd, ← hmm] at HD
          obtain ⟨K, H, R, Fm, V, nl, s⟩ := mm
          have HMM := hide hmm
          unfold MsgV.cells at HD
          clear hd hmm
          go_wp2_with fail
          refine HD.out.mono ?_
          rintro e w3 ⟨rfl, hb3⟩
          have HB34 := hide hb3
          have HBW : Hid (Below w.heap.size w w3) := HB.out.trans (hb3.mono HB.out.size)
          have hws : w.heap.size ≤ w3.heap.size := HBW.out.size
          have HV3 := hide (own_keep HV.out hb3)
          have HQ3 := hide (blk HQ.out hb3)
          clear hb3 HD
          go_wp2_with (first | (refine wpList_store_new rfl 28 _ _ rfl w3 #[.int .i64 K, .int .i64 H, .int .i64 R, .int .i64 Fm, .int .i64 V, .bool nl, .string s] rfl rfl 28 _ rfl (by simp [Value.oneCell']) Tryd.sizeMsg ?_; intro w4 hq4 hb4 hz4; have HQ4 := hide hq4; have q43 : w4.cell? ⟨w3.heap.size, 3, none⟩ = some (.int .i64 Fm) := cell_of_row w4 _ 3 _ _ _ hq4; have HB4 := hide hb4; have HZ4 := hide hz4; have qcb : w4.cell? ⟨cb, 0, none⟩ = some (.pointer (some ⟨rb, 0, none⟩)) := (HC.out.keep (HBW.out.trans (hb4.mono hws))).ring; have qfr : w4.cell? ⟨pb, po + k, none⟩ = some (.string t) := ((HB34.out.trans (hb4.mono HB34.out.size)).cell (p := ⟨pb, po + k, none⟩) (by exact World.block_lt_of_cell? _ _ hcr)).trans hcr; clear hq4 hb4 hz4) | fail)
          have HR4 := hide (HR.out.frame (fun k hk => (HBW.out.trans (HB4.out.mono hws)).block k (HLT.out k hk)))
          have HV4 := hide (own_keep HV3.out HB4.out)
          have HQR4 := hide (blk HQ3.out HB4.out)
          have HSG : Hid (signedB sg n Fm t = signedB sg n (decV (fr k)).f (fr k)) := by unfold Hid; rw [← HT.out, ← HMM.out]
          cases hsg : signedB sg n Fm t with
          | true =>
            have HSY := hide (HSG.out.symm.trans hsg)
            cases sb with
            | true =>
              go_wp2_with fail
              go_quiet (first | (go_at_call 45; refine Calls.quiet_of_same (signed_any F rb n sg Fm t _ (HR4.out.frame (fun _ _ => rfl)))))
              rename_i nq
              obtain ⟨w5, hw5⟩ : ∃ z, z = w4.drewN nq := ⟨_, rfl⟩
              have HB45 : Hid (Below w4.heap.size w4 w5) := by unfold Hid; rw [hw5]; exact below_drewN (Below.refl _ w4) nq
              rw [← hw5]
              have HQ5 := hide (blk HQ4.out HB45.out)
              have HV5 := hide (own_keep HV4.out HB45.out)
              have HQR5 := hide (blk HQR4.out HB45.out)
              have HB5 : Hid (Below w.heap.size w w5) := (HBW.out.trans (HB4.out.mono hws)).trans (HB45.out.mono (by have := HZ4.out; omega))
              clear hw5
              go_wp2_with (first | (refine wpList_load_row rfl 28 _ rfl w3.heap.size rfl 28 #[.int .i64 K, .int .i64 H, .int .i64 R, .int .i64 Fm, .int .i64 V, .bool nl, .string s] (0, 0) _ HQ5.out Tryd.underlying28 rfl Tryd.sizeMsg ?_) | (at_builtin; refine wpList_append_at _ rfl _ _ 76 rfl w.heap.size 28 iM _ 7 64 Tryd.underlying76 hiM hy0 hy1 hy2 rfl (by decide) _ _ _ rfl (own_keep HV5.out ((Below.refl _ w5).alloc (Nat.le_refl _) (.cells #[.int .i64 K, .int .i64 H, .int .i64 R, .int .i64 Fm, .int .i64 V, .bool nl, .string s] 28))) ⟨w5.heap.size, 0, none⟩ 1 1 [.int .i64 K, .int .i64 H, .int .i64 R, .int .i64 Fm, .int .i64 V, .bool nl, .string s] rfl rfl ?c1 ?c2 ?c3 ?c4 ?c5 ?_) | go_in)
              case c1 =>
                intro j u hj
                rw [addr_add, Nat.zero_add]
                rw [cell_of_row _ _ j _ _ _ (heap_alloc_new w5 (.cells #[.int .i64 K, .int .i64 H, .int .i64 R, .int .i64 Fm, .int .i64 V, .bool nl, .string s] 28))]
                simpa using hj
              case c2 => simp [Value.oneCell']
              case c3 => unfold maxLen; omega
              case c4 => omega
              case c5 => have := HB5.out.size; simp; omega
              intro v6 w6 hown6 hgrow6 hat6
              have HO6 : Hid (w6.ownsRow w.heap.size 28 7 v6 (k + 1) (msgL ((List.range (k + 1)).map fun i => decV (fr i)))) := by
                unfold Hid
                rw [range_stepD, msgL_append, ← HT.out, ← HMM.out]
                exact hown6
              have HB6 : Hid (Below w.heap.size w w6) := (HB5.out.alloc HB5.out.size _).grown hgrow6 (by have := HB5.out.size; simp; omega) (fun k hk => (HV5.out.lt k hk).1)
              have HQ6 : Hid (w6.heap[w1.heap.size]? = some (.cells (regA y) 54 (0, 0))) := by
                unfold Hid
                rw [hgrow6.block _ (by have := row_lt0 HQR5.out; simp; omega) (own_not HV5.out HQR5.out (by decide)), Below.heap_alloc _ _ _ (row_lt0 HQR5.out)]
                exact HQR5.out
              clear hown6 hgrow6 hat6
              go_wp2
              go_roundw
              case rel => exact ⟨k + 1, true, HK.out, by go_num, rfl, fun i hi => (by by_cases e : i = k; (rw [e]; exact HDY.out); exact HOK.out i (by omega)), ⟨fun h i hi => (by by_cases e : i = k; (rw [e]; exact HSY.out); exact HSB.out.1 (by trivial) i (by omega)), fun _ => rfl⟩, HO6.out, HQ6.out, HB6.out⟩
              case measure => have := HK.out; simp [intOf]; omega
            | false =>
              go_wp2_with fail
              go_quiet (first | (go_at_call 45; refine Calls.quiet_of_same (signed_any F rb n sg Fm t _ (HR4.out.frame (fun _ _ => rfl)))))
              rename_i nq
              obtain ⟨w5, hw5⟩ : ∃ z, z = w4.drewN nq := ⟨_, rfl⟩
              have HB45 : Hid (Below w4.heap.size w4 w5) := by unfold Hid; rw [hw5]; exact below_drewN (Below.refl _ w4) nq
              rw [← hw5]
              have HQ5 := hide (blk HQ4.out HB45.out)
              have HV5 := hide (own_keep HV4.out HB45.out)
              have HQR5 := hide (blk HQR4.out HB45.out)
              have HB5 : Hid (Below w.heap.size w w5) := (HBW.out.trans (HB4.out.mono hws)).trans (HB45.out.mono (by have := HZ4.out; omega))
              clear hw5
              go_wp2_with (first | (refine wpList_load_row rfl 28 _ rfl w3.heap.size rfl 28 #[.int .i64 K, .int .i64 H, .int .i64 R, .int .i64 Fm, .int .i64 V, .bool nl, .string s] (0, 0) _ HQ5.out Tryd.underlying28 rfl Tryd.sizeMsg ?_) | (at_builtin; refine wpList_append_at _ rfl _ _ 76 rfl w.heap.size 28 iM _ 7 64 Tryd.underlying76 hiM hy0 hy1 hy2 rfl (by decide) _ _ _ rfl (own_keep HV5.out ((Below.refl _ w5).alloc (Nat.le_refl _) (.cells #[.int .i64 K, .int .i64 H, .int .i64 R, .int .i64 Fm, .int .i64 V, .bool nl, .string s] 28))) ⟨w5.heap.size, 0, none⟩ 1 1 [.int .i64 K, .int .i64 H, .int .i64 R, .int .i64 Fm, .int .i64 V, .bool nl, .string s] rfl rfl ?c1 ?c2 ?c3 ?c4 ?c5 ?_) | go_in)
              case c1 =>
                intro j u hj
                rw [addr_add, Nat.zero_add]
                rw [cell_of_row _ _ j _ _ _ (heap_alloc_new w5 (.cells #[.int .i64 K, .int .i64 H, .int .i64 R, .int .i64 Fm, .int .i64 V, .bool nl, .string s] 28))]
                simpa using hj
              case c2 => simp [Value.oneCell']
              case c3 => unfold maxLen; omega
              case c4 => omega
              case c5 => have := HB5.out.size; simp; omega
              intro v6 w6 hown6 hgrow6 hat6
              have HO6 : Hid (w6.ownsRow w.heap.size 28 7 v6 (k + 1) (msgL ((List.range (k + 1)).map fun i => decV (fr i)))) := by
                unfold Hid
                rw [range_stepD, msgL_append, ← HT.out, ← HMM.out]
                exact hown6
              have HB6 : Hid (Below w.heap.size w w6) := (HB5.out.alloc HB5.out.size _).grown hgrow6 (by have := HB5.out.size; simp; omega) (fun k hk => (HV5.out.lt k hk).1)
              have HQ6 : Hid (w6.heap[w1.heap.size]? = some (.cells (regA y) 54 (0, 0))) := by
                unfold Hid
                rw [hgrow6.block _ (by have := row_lt0 HQR5.out; simp; omega) (own_not HV5.out HQR5.out (by decide)), Below.heap_alloc _ _ _ (row_lt0 HQR5.out)]
                exact HQR5.out
              clear hown6 hgrow6 hat6
              go_wp2
              go_roundw
              case rel => exact ⟨k + 1, false, HK.out, by go_num, rfl, fun i hi => (by by_cases e : i = k; (rw [e]; exact HDY.out); exact HOK.out i (by omega)), ⟨fun h => (by cases h), fun h => (by have := HSB.out.2 (fun i hi => h i (by omega)); simp at this)⟩, HO6.out, HQ6.out, HB6.out⟩
              case measure => have := HK.out; simp [intOf]; omega
          | false =>
            have HSY := hide (HSG.out.symm.trans hsg)
            cases sb with
            | true =>
              go_wp2_with fail
              go_quiet (first | (go_at_call 45; refine Calls.quiet_of_same (signed_any F rb n sg Fm t _ (HR4.out.frame (fun _ _ => rfl)))))
              rename_i nq
              obtain ⟨w5, hw5⟩ : ∃ z, z = w4.drewN nq := ⟨_, rfl⟩
              have HB45 : Hid (Below w4.heap.size w4 w5) := by unfold Hid; rw [hw5]; exact below_drewN (Below.refl _ w4) nq
              rw [← hw5]
              have HQ5 := hide (blk HQ4.out HB45.out)
              have HV5 := hide (own_keep HV4.out HB45.out)
              have HQR5 := hide (blk HQR4.out HB45.out)
              have HB5 : Hid (Below w.heap.size w w5) := (HBW.out.trans (HB4.out.mono hws)).trans (HB45.out.mono (by have := HZ4.out; omega))
              clear hw5
              go_wp2_with (first | (refine wpList_load_row rfl 28 _ rfl w3.heap.size rfl 28 #[.int .i64 K, .int .i64 H, .int .i64 R, .int .i64 Fm, .int .i64 V, .bool nl, .string s] (0, 0) _ HQ5.out Tryd.underlying28 rfl Tryd.sizeMsg ?_) | (at_builtin; refine wpList_append_at _ rfl _ _ 76 rfl w.heap.size 28 iM _ 7 64 Tryd.underlying76 hiM hy0 hy1 hy2 rfl (by decide) _ _ _ rfl (own_keep HV5.out ((Below.refl _ w5).alloc (Nat.le_refl _) (.cells #[.int .i64 K, .int .i64 H, .int .i64 R, .int .i64 Fm, .int .i64 V, .bool nl, .string s] 28))) ⟨w5.heap.size, 0, none⟩ 1 1 [.int .i64 K, .int .i64 H, .int .i64 R, .int .i64 Fm, .int .i64 V, .bool nl, .string s] rfl rfl ?c1 ?c2 ?c3 ?c4 ?c5 ?_) | go_in)
              case c1 =>
                intro j u hj
                rw [addr_add, Nat.zero_add]
                rw [cell_of_row _ _ j _ _ _ (heap_alloc_new w5 (.cells #[.int .i64 K, .int .i64 H, .int .i64 R, .int .i64 Fm, .int .i64 V, .bool nl, .string s] 28))]
                simpa using hj
              case c2 => simp [Value.oneCell']
              case c3 => unfold maxLen; omega
              case c4 => omega
              case c5 => have := HB5.out.size; simp; omega
              intro v6 w6 hown6 hgrow6 hat6
              have HO6 : Hid (w6.ownsRow w.heap.size 28 7 v6 (k + 1) (msgL ((List.range (k + 1)).map fun i => decV (fr i)))) := by
                unfold Hid
                rw [range_stepD, msgL_append, ← HT.out, ← HMM.out]
                exact hown6
              have HB6 : Hid (Below w.heap.size w w6) := (HB5.out.alloc HB5.out.size _).grown hgrow6 (by have := HB5.out.size; simp; omega) (fun k hk => (HV5.out.lt k hk).1)
              have HQ6 : Hid (w6.heap[w1.heap.size]? = some (.cells (regA y) 54 (0, 0))) := by
                unfold Hid
                rw [hgrow6.block _ (by have := row_lt0 HQR5.out; simp; omega) (own_not HV5.out HQR5.out (by decide)), Below.heap_alloc _ _ _ (row_lt0 HQR5.out)]
                exact HQR5.out
              clear hown6 hgrow6 hat6
              go_wp2
              go_roundw
              case rel => exact ⟨k + 1, false, HK.out, by go_num, rfl, fun i hi => (by by_cases e : i = k; (rw [e]; exact HDY.out); exact HOK.out i (by omega)), ⟨fun h => (by cases h), fun h => (by have := h k (by omega); rw [HSY.out] at this; cases this)⟩, HO6.out, HQ6.out, HB6.out⟩
              case measure => have := HK.out; simp [intOf]; omega
            | false =>
              go_wp2_with fail
              go_quiet (first | (go_at_call 45; refine Calls.quiet_of_same (signed_any F rb n sg Fm t _ (HR4.out.frame (fun _ _ => rfl)))))
              rename_i nq
              obtain ⟨w5, hw5⟩ : ∃ z, z = w4.drewN nq := ⟨_, rfl⟩
              have HB45 : Hid (Below w4.heap.size w4 w5) := by unfold Hid; rw [hw5]; exact below_drewN (Below.refl _ w4) nq
              rw [← hw5]
              have HQ5 := hide (blk HQ4.out HB45.out)
              have HV5 := hide (own_keep HV4.out HB45.out)
              have HQR5 := hide (blk HQR4.out HB45.out)
              have HB5 : Hid (Below w.heap.size w w5) := (HBW.out.trans (HB4.out.mono hws)).trans (HB45.out.mono (by have := HZ4.out; omega))
              clear hw5
              go_wp2_with (first | (refine wpList_load_row rfl 28 _ rfl w3.heap.size rfl 28 #[.int .i64 K, .int .i64 H, .int .i64 R, .int .i64 Fm, .int .i64 V, .bool nl, .string s] (0, 0) _ HQ5.out Tryd.underlying28 rfl Tryd.sizeMsg ?_) | (at_builtin; refine wpList_append_at _ rfl _ _ 76 rfl w.heap.size 28 iM _ 7 64 Tryd.underlying76 hiM hy0 hy1 hy2 rfl (by decide) _ _ _ rfl (own_keep HV5.out ((Below.refl _ w5).alloc (Nat.le_refl _) (.cells #[.int .i64 K, .int .i64 H, .int .i64 R, .int .i64 Fm, .int .i64 V, .bool nl, .string s] 28))) ⟨w5.heap.size, 0, none⟩ 1 1 [.int .i64 K, .int .i64 H, .int .i64 R, .int .i64 Fm, .int .i64 V, .bool nl, .string s] rfl rfl ?c1 ?c2 ?c3 ?c4 ?c5 ?_) | go_in)
              case c1 =>
                intro j u hj
                rw [addr_add, Nat.zero_add]
                rw [cell_of_row _ _ j _ _ _ (heap_alloc_new w5 (.cells #[.int .i64 K, .int .i64 H, .int .i64 R, .int .i64 Fm, .int .i64 V, .bool nl, .string s] 28))]
                simpa using hj
              case c2 => simp [Value.oneCell']
              case c3 => unfold maxLen; omega
              case c4 => omega
              case c5 => have := HB5.out.size; simp; omega
              intro v6 w6 hown6 hgrow6 hat6
              have HO6 : Hid (w6.ownsRow w.heap.size 28 7 v6 (k + 1) (msgL ((List.range (k + 1)).map fun i => decV (fr i)))) := by
                unfold Hid
                rw [range_stepD, msgL_append, ← HT.out, ← HMM.out]
                exact hown6
              have HB6 : Hid (Below w.heap.size w w6) := (HB5.out.alloc HB5.out.size _).grown hgrow6 (by have := HB5.out.size; simp; omega) (fun k hk => (HV5.out.lt k hk).1)
              have HQ6 : Hid (w6.heap[w1.heap.size]? = some (.cells (regA y) 54 (0, 0))) := by
                unfold Hid
                rw [hgrow6.block _ (by have := row_lt0 HQR5.out; simp; omega) (own_not HV5.out HQR5.out (by decide)), Below.heap_alloc _ _ _ (row_lt0 HQR5.out)]
                exact HQR5.out
              clear hown6 hgrow6 hat6
              go_wp2
              go_roundw
              case rel => exact ⟨k + 1, false, HK.out, by go_num, rfl, fun i hi => (by by_cases e : i = k; (rw [e]; exact HDY.out); exact HOK.out i (by omega)), ⟨fun h => (by cases h), fun h => (by have := h k (by omega); rw [HSY.out] at this; cases this)⟩, HO6.out, HQ6.out, HB6.out⟩
              case measure => have := HK.out; simp [intOf]; omega

end Go.Proofs.YtcfjhbcpjpgodaaDoor
