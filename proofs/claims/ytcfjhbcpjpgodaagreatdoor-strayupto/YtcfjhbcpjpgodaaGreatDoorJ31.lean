/- Proved here: what wire.Decode, synod.Decode and the document's Decode answer at every text: the same message, and an error just where it is none. -/
import Derived.Test.YtcfjhbcpjpgodaaGreatDoorJ29
import Derived.Test.YtcfjhbcpjpgodaaGreatDoorJ30
import Derived.Test.YtcfjhbcpjpgodaaGreatDoorJ2
import Derived.Test.YtcfjhbcpjpgodaaGreatDoorJ4
import Derived.Test.YtcfjhbcpjpgodaaGreatDoorJ5
namespace Go.Proofs.YtcfjhbcpjpgodaaGreatDoor
open Go.RowKit

theorem wireDecode_any (t : ByteArray) (k0 k1 k2 k3 k4 k5 : Int) (s : ByteArray) (b : Addr) (w : World) (hp : Parts t k0 k1 k2 k3 k4 k5 s) (hb : w.cell? ⟨2, 0, none⟩ = some (.iface 294 (.pointer (some b)))) :
 Calls Tryz.prog 102 #[.string t] w fun e w' => e = .returned (.tuple #[decM k0 k1 k2 k3 k4 k5 s, formE b (decB k0 k1 k2 k3 k4 k5 s.size)]) ∧ Below w.heap.size w w' := by
 by_cases h5 : (s.size : Int) = k5
 · by_cases hk : k0 = 1
   · subst hk
     exact wireDecode_a t k1 k2 k3 k4 k5 s b w hp h5 hb
   · by_cases hk4 : k4 = 1
     · subst hk4
       exact wireDecode_b t k0 k1 k2 k3 k5 s b w hp h5 hb hk
     · exact wireDecode_c t k0 k1 k2 k3 k4 k5 s b w hp h5 hb hk hk4
 · have hd : decB k0 k1 k2 k3 k4 k5 s.size = false := by
    unfold decB
    rw [decide_eq_false h5]
    simp
   refine (wireDecode_size t k0 k1 k2 k3 k4 k5 s b w hp h5 hb).mono ?_
   rintro e w' ⟨rfl, hB⟩
   exact ⟨form_no hd, hB⟩

theorem Tryz.sizeMsg : (Tryz.prog.info? 57).map (·.size) = some 7 := by kernel_rfl
def ErrAt (w : World) (g : Nat) (b : Addr) : Prop := w.cell? ⟨g, 0, none⟩ = some (.iface 294 (.pointer (some b)))
theorem ErrAt.below {w w' : World} {g : Nat} {b : Addr} (h : ErrAt w g b) (hb : Below w.heap.size w w') : ErrAt w' g b := by
 unfold ErrAt at h ⊢
 rw [hb.cell (p := ⟨g, 0, none⟩) (by exact World.block_lt_of_cell? _ _ h)]
 exact h

theorem wireDecode_at (t : ByteArray) (b : Addr) (w : World) (hb : ErrAt w 2 b) :
 Calls Tryz.prog 102 #[.string t] w fun e w' => e = .returned (.tuple #[.agg (decV t).cells, formE b (decOk t)]) ∧ Below w.heap.size w w' := by
 by_cases h6 : 6 ≤ t.size
 · have h := wireDecode_any t _ _ _ _ _ _ _ b w (parts_byt t h6) hb
   have e1 : decOk t = decB (byt t 0) (byt t 1) (byt t 2) (byt t 3) (byt t 4) (byt t 5) (t.extract 6 t.size).size := by unfold decOk; rw [decide_eq_true h6]; rfl
   unfold decM at h
   unfold decV
   rw [e1]
   cases hd : decB (byt t 0) (byt t 1) (byt t 2) (byt t 3) (byt t 4) (byt t 5) (t.extract 6 t.size).size with
   | true =>
    rw [hd] at h
    exact h
   | false =>
    rw [hd] at h
    exact h
 · have e1 : decOk t = false := by unfold decOk; rw [decide_eq_false h6]; rfl
   unfold decV
   rw [e1]
   exact wireDecode_short t b w (by omega) hb

theorem decV_no {t : ByteArray} (h : decOk t = false) : decV t = msg0 := by unfold decV; rw [h]; rfl

theorem wireDecode_no (t : ByteArray) (b : Addr) (w : World) (hb : ErrAt w 2 b) (h : decOk t = false) :
 Calls Tryz.prog 102 #[.string t] w fun e w' => e = .returned (.tuple #[.agg #[.int .i64 0, .int .i64 0, .int .i64 0, .int .i64 0, .int .i64 0, .bool false, .string ⟨#[]⟩], .iface 294 (.pointer (some b))]) ∧ Below w.heap.size w w' := by
 have h1 := wireDecode_at t b w hb
 rw [decV_no h, h] at h1
 exact h1
theorem wireDecode_yes (t : ByteArray) (b : Addr) (K H R F V : Int) (nl : Bool) (s : ByteArray) (w : World) (hb : ErrAt w 2 b) (h : decOk t = true) (hv : decV t = ⟨K, H, R, F, V, nl, s⟩) :
 Calls Tryz.prog 102 #[.string t] w fun e w' => e = .returned (.tuple #[.agg #[.int .i64 K, .int .i64 H, .int .i64 R, .int .i64 F, .int .i64 V, .bool nl, .string s], .nilIface]) ∧ Below w.heap.size w w' := by
 have h1 := wireDecode_at t b w hb
 rw [hv, h] at h1
 exact h1

def RefAt (w : World) (g : Nat) (f : Int) (b : Addr) : Prop := w.heap[g]? = some (.cells #[.int .i64 f, .iface 294 (.pointer (some b))] 160 (0, 0))
def refV (g : Nat) : Value := .iface 158 (.pointer (some ⟨g, 0, none⟩))

def OpenP (sg : Nat → List ByteArray) (n : Nat) (t : ByteArray) (bF bS : Addr) (w : World) (e : Ending) (w' : World) : Prop :=
 Below w.heap.size w w' ∧
  ((decOk t = true ∧ signedB sg n (decV t).f t = true ∧ e = .returned (.tuple #[.agg (decV t).cells, .nilIface])) ∨
   (decOk t = false ∧ ∃ g, w.heap.size ≤ g ∧ RefAt w' g (-1) bF ∧ e = .returned (.tuple #[.agg msg0.cells, refV g])) ∨
   (decOk t = true ∧ signedB sg n (decV t).f t = false ∧ ∃ g, w.heap.size ≤ g ∧ RefAt w' g (decV t).f bS ∧ e = .returned (.tuple #[.agg msg0.cells, refV g])))

set_option maxRecDepth 100000 in
set_option maxHeartbeats 1600000 in
theorem open_form (rb n : Nat) (sg : Nat → List ByteArray) (t : ByteArray) (bF bS : Addr) (w : World) (hF : ErrAt w 2 bF) (hd : decOk t = false) :
 Calls Tryz.prog 77 #[.pointer (some ⟨rb, 0, none⟩), .string t] w (OpenP sg n t bF bS w) := by
 have HD := hide hd
 have HF := hide hF
 clear hd hF
 go_enter Tryz.func77, Tryz.ntmps77
 go_wp2_with fail
 refine (wireDecode_no t bF _ (HF.out.below ((Below.refl _ w).alloc (Nat.le_refl _) _)) HD.out).mono ?_
 rintro e w1 ⟨rfl, hB⟩
 have hz : w.heap.size < w1.heap.size := by have := hB.size; simp at this; omega
 have H0 := hide ((hB.block w.heap.size (by simp)).trans (heap_alloc_new w (.cells #[.int .i64 0, .int .i64 0, .int .i64 0, .int .i64 0, .int .i64 0, .bool false, .string ⟨#[]⟩] 57)))
 have HB1 : Hid (Below w.heap.size w w1) := ((Below.refl _ w).alloc (Nat.le_refl _) _).trans (hB.mono (by simp))
 clear hB
 go_wp2_with (first | (refine wpList_store_new rfl 57 _ _ rfl w1 #[.int .i64 0, .int .i64 0, .int .i64 0, .int .i64 0, .int .i64 0, .bool false, .string ⟨#[]⟩] rfl rfl 57 _ rfl (by simp [Value.oneCell']) Tryz.sizeMsg ?_; intro w2 hq2 hb2 hz2; have H2 := hide ((hb2.block _ hz).trans H0.out); have HZ := hide hz2; clear hz2 hq2) | (refine wpList_store_rowG rfl 57 _ _ rfl w.heap.size #[.int .i64 0, .int .i64 0, .int .i64 0, .int .i64 0, .int .i64 0, .bool false, .string ⟨#[]⟩] rfl rfl 57 _ ((Below.heap_alloc w2 _ _ (by have := HZ.out; omega)).trans H2.out) rfl (by simp [Value.oneCell']) Tryz.sizeMsg ?_; intro w3 hq3 ho3))
 have hz2 := HZ.out
 have HB2 : Hid (Below w.heap.size w w2) := HB1.out.trans (hb2.mono (by omega))
 refine bodyPost_ret (v := .tuple #[.agg #[.int .i64 0, .int .i64 0, .int .i64 0, .int .i64 0, .int .i64 0, .bool false, .string ⟨#[]⟩], .iface 158 (.pointer (some ⟨w2.heap.size, 0, none⟩))]) (results_rowG2 Tryz.results77 _ _ w.heap.size 57 _ _ _ rfl rfl hq3 Tryz.underlying57 rfl Tryz.sizeMsg) rfl ⟨(HB2.out.alloc (by omega) _).trans (ho3.below (by omega)), Or.inr (Or.inl ⟨HD.out, w2.heap.size, by omega, ?_, rfl⟩)⟩
 exact (ho3.block _ (by omega)).trans (heap_alloc_new w2 _)

set_option maxRecDepth 100000 in
set_option maxHeartbeats 1600000 in
theorem open_some (F : Nat → Prop) (rb n : Nat) (sg : Nat → List ByteArray) (t : ByteArray) (bF bS : Addr) (w : World) (hr : RingI F rb n sg w) (hlt : ∀ k, F k → k < w.heap.size) (hF : ErrAt w 2 bF) (hS : ErrAt w 3 bS) (hd : decOk t = true) :
 Calls Tryz.prog 77 #[.pointer (some ⟨rb, 0, none⟩), .string t] w (OpenP sg n t bF bS w) := by
 obtain ⟨m, hm⟩ : ∃ m, m = decV t := ⟨_, rfl⟩
 obtain ⟨K, H, R, Fm, V, nl, s⟩ := m
 have HM := hide hm
 have HD := hide hd
 have HF := hide hF
 have HS := hide hS
 have HR := hide hr
 have HLT := hide hlt
 clear hd hF hS hm hr hlt
 go_enter Tryz.func77, Tryz.ntmps77
 go_wp2_with fail
 refine (wireDecode_yes t bF K H R Fm V nl s _ (HF.out.below ((Below.refl _ w).alloc (Nat.le_refl _) _)) HD.out HM.out.symm).mono ?_
 rintro e w1 ⟨rfl, hB⟩
 have hz : w.heap.size < w1.heap.size := by have := hB.size; simp at this; omega
 have H0 := hide ((hB.block w.heap.size (by simp)).trans (heap_alloc_new w (.cells #[.int .i64 0, .int .i64 0, .int .i64 0, .int .i64 0, .int .i64 0, .bool false, .string ⟨#[]⟩] 57)))
 have HB1 : Hid (Below w.heap.size w w1) := ((Below.refl _ w).alloc (Nat.le_refl _) _).trans (hB.mono (by simp))
 clear hB
 go_wp2_with (refine wpList_store_rowG rfl 57 _ _ rfl w1.heap.size #[.int .i64 K, .int .i64 H, .int .i64 R, .int .i64 Fm, .int .i64 V, .bool nl, .string s] rfl rfl 57 _ (heap_alloc_new w1 _) rfl (by simp [Value.oneCell']) Tryz.sizeMsg ?_; intro w2 hq2 ho2; have hc3 : w2.cell? ⟨w1.heap.size, 3, none⟩ = some (.int .i64 Fm) := cell_of_row w2 _ 3 _ _ _ hq2)
 have hz2 : w2.heap.size = w1.heap.size + 1 := by rw [ho2.size]; simp
 have H2 : Hid (w2.heap[w.heap.size]? = some (.cells #[.int .i64 0, .int .i64 0, .int .i64 0, .int .i64 0, .int .i64 0, .bool false, .string ⟨#[]⟩] 57 (0, 0))) := (ho2.block _ (by omega)).trans ((Below.heap_alloc w1 _ _ hz).trans H0.out)
 have HB2 : Hid (Below w.heap.size w w2) := (HB1.out.alloc (by omega) _).trans (ho2.below (by omega))
 have HZ := hide hz2
 have HQ2 := hide hq2
 have HR2 := hide (HR.out.frame (fun k hk => HB2.out.block k (HLT.out k hk)))
 have hs2 : w2.cell? ⟨3, 0, none⟩ = some (.iface 294 (.pointer (some bS))) := HS.out.below HB2.out
 clear hq2 ho2 hz2
 have HSB := hide (signed_any F rb n sg Fm t w2 HR2.out)
 cases hsb : signedB sg n Fm t with
 | true =>
  rw [hsb] at HSB
  have HSX : Hid (signedB sg n (decV t).f t = true) := by unfold Hid; rw [← HM.out]; exact hsb
  clear hsb
  refine HSB.out.mono ?_
  rintro e wy ⟨rfl, hwy⟩
  have hwv := hwy.symm
  clear hwy
  subst hwv
  go_wp2_with (first | (refine wpList_load_row rfl 57 _ rfl w1.heap.size rfl 57 #[.int .i64 K, .int .i64 H, .int .i64 R, .int .i64 Fm, .int .i64 V, .bool nl, .string s] (0, 0) _ HQ2.out Tryz.underlying57 rfl Tryz.sizeMsg ?_) | (refine wpList_store_rowG rfl 57 _ _ rfl w.heap.size #[.int .i64 K, .int .i64 H, .int .i64 R, .int .i64 Fm, .int .i64 V, .bool nl, .string s] rfl rfl 57 _ H2.out rfl (by simp [Value.oneCell']) Tryz.sizeMsg ?_; intro w3 hq3 ho3))
  have hz2 := HZ.out
  refine bodyPost_ret (v := .tuple #[.agg #[.int .i64 K, .int .i64 H, .int .i64 R, .int .i64 Fm, .int .i64 V, .bool nl, .string s], .nilIface]) (results_rowG2 Tryz.results77 _ _ w.heap.size 57 _ _ _ rfl rfl hq3 Tryz.underlying57 rfl Tryz.sizeMsg) rfl ⟨HB2.out.trans (ho3.below (by omega)), Or.inl ⟨HD.out, HSX.out, ?_⟩⟩
  rw [← HM.out]
  rfl
 | false =>
  rw [hsb] at HSB
  have HSX : Hid (signedB sg n (decV t).f t = false) := by unfold Hid; rw [← HM.out]; exact hsb
  clear hsb
  refine HSB.out.mono ?_
  rintro e wy ⟨rfl, hwy⟩
  have hwv := hwy.symm
  clear hwy
  subst hwv
  go_wp2_with fail
  obtain ⟨z0, z1, z2, z3, z4, z5, z6, y0, y1, y2, y3, y4, y5, y6⟩ := MsgAt.cells (w := w2) (g := w.heap.size) H2.out
  have hz3 : w.heap.size < w2.heap.size := by have := HZ.out; omega
  have hgl : 3 < w.heap.size := World.block_lt_of_cell? _ _ HS.out
  have hne1 : ¬ 3 = w.heap.size := by omega
  have hne2 : ¬ w.heap.size = 3 := by omega
  have hne3 : ¬ w1.heap.size = w.heap.size := by omega
  have hne4 : ¬ w.heap.size = w1.heap.size := by omega
  have hz4 : w1.heap.size < w2.heap.size := by have := HZ.out; omega
  go_region
  go_wp2
  refine bodyPost_ret (v := .tuple #[.agg #[.int .i64 0, .int .i64 0, .int .i64 0, .int .i64 0, .int .i64 0, .bool false, .string ⟨#[]⟩], .iface 158 (.pointer (some ⟨w2.heap.size, 0, none⟩))]) (by simp [results, Tryz.results77, go_sem, z0, z1, z2, z3, z4, z5, z6, hz3]) rfl ⟨?_, Or.inr (Or.inr ⟨HD.out, HSX.out, w2.heap.size, by omega, ?_, rfl⟩)⟩
  · refine Below.drew (Below.alloc (below_setAll HB2.out (Nat.le_refl _) _ _ _ _ _ _ _) ?_ _)
    simp
    omega
  · rw [← HM.out]
    have h := heap_alloc_new (((((((w2.setCell ⟨w.heap.size, 0, none⟩ (.int .i64 0)).setCell ⟨w.heap.size, 1, none⟩ (.int .i64 0)).setCell ⟨w.heap.size, 2, none⟩ (.int .i64 0)).setCell ⟨w.heap.size, 3, none⟩ (.int .i64 0)).setCell ⟨w.heap.size, 4, none⟩ (.int .i64 0)).setCell ⟨w.heap.size, 5, none⟩ (.bool false)).setCell ⟨w.heap.size, 6, none⟩ (.string ⟨#[]⟩)) (.cells #[.int .i64 Fm, .iface 294 (.pointer (some bS))] 160)
    have e : (((((((w2.setCell ⟨w.heap.size, 0, none⟩ (.int .i64 0)).setCell ⟨w.heap.size, 1, none⟩ (.int .i64 0)).setCell ⟨w.heap.size, 2, none⟩ (.int .i64 0)).setCell ⟨w.heap.size, 3, none⟩ (.int .i64 0)).setCell ⟨w.heap.size, 4, none⟩ (.int .i64 0)).setCell ⟨w.heap.size, 5, none⟩ (.bool false)).setCell ⟨w.heap.size, 6, none⟩ (.string ⟨#[]⟩)).heap.size = w2.heap.size := by simp
    rw [e] at h
    exact h

theorem open_any (F : Nat → Prop) (rb n : Nat) (sg : Nat → List ByteArray) (t : ByteArray) (bF bS : Addr) (w : World) (hr : RingI F rb n sg w) (hlt : ∀ k, F k → k < w.heap.size) (hF : ErrAt w 2 bF) (hS : ErrAt w 3 bS) :
 Calls Tryz.prog 77 #[.pointer (some ⟨rb, 0, none⟩), .string t] w (OpenP sg n t bF bS w) := by
 cases hd : decOk t with
 | true => exact open_some F rb n sg t bF bS w hr hlt hF hS hd
 | false => exact open_form rb n sg t bF bS w hF hd

end Go.Proofs.YtcfjhbcpjpgodaaGreatDoor
