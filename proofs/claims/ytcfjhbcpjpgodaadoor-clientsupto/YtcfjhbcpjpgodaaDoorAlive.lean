/- Proved here: what the statements' function alive answers: true. -/
import Derived.Test.YtcfjhbcpjpgodaaDoorWireDec
namespace Go.Proofs.YtcfjhbcpjpgodaaDoor
open Go.RowKit

theorem alive_parts : Parts ⟨#[1, 1, 2, 3, 1, 3, 106, 97, 49]⟩ 1 1 2 3 1 3 ⟨#[106, 97, 49]⟩ := by
  obtain ⟨k0, k1, k2, k3, k4, k5, s, hp⟩ := parts_of ⟨#[1, 1, 2, 3, 1, 3, 106, 97, 49]⟩ (by decide)
  have hw := hp.whole
  have h' := congrArg (fun x : ByteArray => x.data.toList) hw
  simp only [ByteArray.data_append, Array.toList_append, strOfNums_data, List.map_cons, List.map_nil, List.cons_append, List.nil_append, List.cons.injEq] at h'
  obtain ⟨e0, e1, e2, e3, e4, e5, e6⟩ := h'
  have r0 : k0 = 1 := (ofNat_inj 1 k0 (by omega) (by omega) hp.b0.1 hp.b0.2 e0).symm
  have r1 : k1 = 1 := (ofNat_inj 1 k1 (by omega) (by omega) hp.b1.1 hp.b1.2 e1).symm
  have r2 : k2 = 2 := (ofNat_inj 2 k2 (by omega) (by omega) hp.b2.1 hp.b2.2 e2).symm
  have r3 : k3 = 3 := (ofNat_inj 3 k3 (by omega) (by omega) hp.b3.1 hp.b3.2 e3).symm
  have r4 : k4 = 1 := (ofNat_inj 1 k4 (by omega) (by omega) hp.b4.1 hp.b4.2 e4).symm
  have r5 : k5 = 3 := (ofNat_inj 3 k5 (by omega) (by omega) hp.b5.1 hp.b5.2 e5).symm
  have r6 : s = ⟨#[106, 97, 49]⟩ := ByteArray.ext (Array.toList_inj.1 e6.symm)
  subst r0 r1 r2 r3 r4 r5 r6
  exact hp

theorem alive_enc : encS 1 1 2 3 0 false ⟨#[106, 97, 49]⟩ = ⟨#[1, 1, 2, 3, 1, 3, 106, 97, 49]⟩ := by decide +kernel
theorem alive_has : hasB 1 1 2 3 0 false (⟨#[106, 97, 49]⟩ : ByteArray).size = true := by decide +kernel
theorem alive_dec : decB 1 1 2 3 1 3 (⟨#[106, 97, 49]⟩ : ByteArray).size = true := by decide +kernel

set_option maxRecDepth 100000 in
set_option maxHeartbeats 800000 in
theorem alive_walk (b : Addr) (w : World) (hb : w.cell? ⟨1, 0, none⟩ = some (.iface 188 (.pointer (some b)))) :
    Calls Tryd.prog 9 #[] w fun e w' => e = .returned (.bool true) ∧ Below w.heap.size w w' := by
  have hlt := World.block_lt_of_cell? _ _ hb
  have HE : ∀ w : World, w.cell? ⟨1, 0, none⟩ = some (.iface 188 (.pointer (some b))) → Calls Tryd.prog 10 #[.agg #[.int .i64 1, .int .i64 1, .int .i64 2, .int .i64 3, .int .i64 0, .bool false, .string ⟨#[106, 97, 49]⟩]] w fun e w' => e = .returned (.tuple #[.string ⟨#[1, 1, 2, 3, 1, 3, 106, 97, 49]⟩, .nilIface]) ∧ Below w.heap.size w w' := fun w hb => by
    have h := synodEncode_any 1 1 2 3 0 false ⟨#[106, 97, 49]⟩ b w (by unfold maxLen; decide) hb
    rw [alive_enc, alive_has] at h
    exact h
  have HD : ∀ w : World, w.cell? ⟨1, 0, none⟩ = some (.iface 188 (.pointer (some b))) → Calls Tryd.prog 12 #[.string ⟨#[1, 1, 2, 3, 1, 3, 106, 97, 49]⟩] w fun e w' => e = .returned (.tuple #[.agg #[.int .i64 1, .int .i64 1, .int .i64 2, .int .i64 3, .int .i64 0, .bool false, .string ⟨#[106, 97, 49]⟩], .nilIface]) ∧ Below w.heap.size w w' := fun w hb =>
    synodDecode_of _ 1 1 2 3 0 false ⟨#[106, 97, 49]⟩ true b w (fun w hb => by
      have h := wireDecode_any _ 1 1 2 3 1 3 _ b w alive_parts hb
      unfold decM at h
      rw [if_pos alive_dec, alive_dec] at h
      exact h) hb
  have HE' := hide HE
  have HD' := hide HD
  clear HE HD
  have hb1 := fun o => cell?_alloc_old o hb
  go_enter Tryd.func9, Tryd.ntmps9
  go_wp2_with fail
  refine (HE'.out _ (hb1 _)).mono ?_
  rintro e w1 ⟨rfl, hB⟩
  have hbw : w1.cell? ⟨1, 0, none⟩ = some (.iface 188 (.pointer (some b))) := by
    rw [hB.cell (p := ⟨1, 0, none⟩) (by simp at hlt ⊢; omega)]
    exact hb1 _
  have hm1 := (MsgAt.alloc w 1 1 2 3 0 false ⟨#[106, 97, 49]⟩).later hB (by simp)
  have HM1 := hide hm1
  have HB1 : Hid (Below w.heap.size w w1) := ((Below.refl _ w).alloc (Nat.le_refl _) _).trans (hB.mono (by simp))
  clear hB hm1 hb hb1
  go_wp2_with fail
  refine (HD'.out _ hbw).mono ?_
  rintro e w2 ⟨rfl, hB2⟩
  have hm2 := HM1.out.later hB2 HM1.out.lt
  have hlt2 : w.heap.size < w2.heap.size := hm2.lt
  obtain ⟨c0, c1, c2, c3, c4, c5, c6, g0, g1, g2, g3, g4, g5, g6⟩ := hm2.cells
  have HB2 : Hid (Below w.heap.size w w2) := HB1.out.trans (hB2.mono (Nat.le_of_lt HM1.out.lt))
  clear hB2 hm2 hbw
  go_wp2
  go_ret
  exact ⟨rfl, HB2.out.alloc (Nat.le_of_lt hlt2) _⟩

end Go.Proofs.YtcfjhbcpjpgodaaDoor
