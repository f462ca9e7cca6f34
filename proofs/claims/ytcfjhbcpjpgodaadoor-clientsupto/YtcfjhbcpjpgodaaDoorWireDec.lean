/- Proved here: what wire.Decode, synod.Decode and the document's Decode answer at every text: the same message, and an error just where it is none. -/
import Derived.Test.YtcfjhbcpjpgodaaDoorJ10
import Derived.Test.YtcfjhbcpjpgodaaDoorJ11
namespace Go.Proofs.YtcfjhbcpjpgodaaDoor
open Go.RowKit

/-- wire.Decode at every text of six bytes or more. -/
theorem wireDecode_any (t : ByteArray) (k0 k1 k2 k3 k4 k5 : Int) (s : ByteArray) (b : Addr) (w : World) (hp : Parts t k0 k1 k2 k3 k4 k5 s) (hb : w.cell? ⟨1, 0, none⟩ = some (.iface 188 (.pointer (some b)))) :
    Calls Tryd.prog 38 #[.string t] w fun e w' => e = .returned (.tuple #[decM k0 k1 k2 k3 k4 k5 s, formE b (decB k0 k1 k2 k3 k4 k5 s.size)]) ∧ Below w.heap.size w w' := by
  by_cases h5 : (s.size : Int) = k5
  · by_cases hk : k0 = 1
    · subst hk
      exact wireDecode_a t k1 k2 k3 k4 k5 s b w hp h5 hb
    · by_cases hk4 : k4 = 1
      · subst hk4
        exact wireDecode_b t k0 k1 k2 k3 k5 s b w hp h5 hb hk
      · exact wireDecode_c t k0 k1 k2 k3 k4 k5 s b w hp h5 hb hk hk4
  · have hd : decB k0 k1 k2 k3 k4 k5 s.size = false := by
      unfold decB
      rw [decide_eq_false h5]
      simp
    refine (wireDecode_size t k0 k1 k2 k3 k4 k5 s b w hp h5 hb).mono ?_
    rintro e w' ⟨rfl, hB⟩
    exact ⟨form_no hd, hB⟩

/-- One message and one answer, at every text: what both Decodes come to. -/
theorem decode_both (t : ByteArray) (hs : t.size ≤ maxLen) : ∃ (K H R F V : Int) (nl : Bool) (s : ByteArray) (ok : Bool), s.size ≤ maxLen ∧
    (∀ (w : World), Calls Tryd.prog 13 #[.string t] w fun e w' => e = .returned (.tuple #[.agg #[.int .i64 K, .int .i64 H, .int .i64 R, .int .i64 F, .int .i64 V, .bool nl, .string s], .bool ok]) ∧ Below w.heap.size w w') ∧
    (∀ (b : Addr) (w : World), w.cell? ⟨1, 0, none⟩ = some (.iface 188 (.pointer (some b))) → Calls Tryd.prog 38 #[.string t] w fun e w' => e = .returned (.tuple #[.agg #[.int .i64 K, .int .i64 H, .int .i64 R, .int .i64 F, .int .i64 V, .bool nl, .string s], formE b ok]) ∧ Below w.heap.size w w') := by
  by_cases h : t.size < 6
  · exact ⟨0, 0, 0, 0, 0, false, ⟨#[]⟩, false, Nat.zero_le _, fun w => refDecode_short t w h, fun b w hb => wireDecode_short t b w h hb⟩
  · obtain ⟨k0, k1, k2, k3, k4, k5, s, hp⟩ := parts_of t (by omega)
    have h1 := fun w => refDecode_any t k0 k1 k2 k3 k4 k5 s w hs hp
    have h2 := fun b w => wireDecode_any t k0 k1 k2 k3 k4 k5 s b w hp
    have hsz := hp.size
    unfold decM at h1 h2
    cases hd : decB k0 k1 k2 k3 k4 k5 s.size with
    | true =>
      simp only [hd, if_true] at h1 h2
      exact ⟨k0, k1, k2, k3, vOf k0 k4, nlOf k0 k4, s, true, by omega, h1, h2⟩
    | false =>
      simp only [hd, Bool.false_eq_true, if_false] at h1 h2
      exact ⟨0, 0, 0, 0, 0, false, ⟨#[]⟩, false, Nat.zero_le _, h1, h2⟩

set_option maxRecDepth 100000 in
set_option maxHeartbeats 800000 in
/-- synod.Decode hands on what wire.Decode answers. -/
theorem synodDecode_of (t : ByteArray) (K H R F V : Int) (nl : Bool) (s : ByteArray) (ok : Bool) (b : Addr) (w : World)
    (hd : ∀ (w : World), w.cell? ⟨1, 0, none⟩ = some (.iface 188 (.pointer (some b))) → Calls Tryd.prog 38 #[.string t] w fun e w' => e = .returned (.tuple #[.agg #[.int .i64 K, .int .i64 H, .int .i64 R, .int .i64 F, .int .i64 V, .bool nl, .string s], formE b ok]) ∧ Below w.heap.size w w')
    (hb : w.cell? ⟨1, 0, none⟩ = some (.iface 188 (.pointer (some b)))) :
    Calls Tryd.prog 12 #[.string t] w fun e w' => e = .returned (.tuple #[.agg #[.int .i64 K, .int .i64 H, .int .i64 R, .int .i64 F, .int .i64 V, .bool nl, .string s], formE b ok]) ∧ Below w.heap.size w w' := by
  have hb1 := fun o => cell?_alloc_old o hb
  have HD := hide hd
  clear hd
  go_enter Tryd.func12, Tryd.ntmps12
  go_wp2_with fail
  refine (HD.out _ (hb1 _)).mono ?_
  rintro e w1 ⟨rfl, hB⟩
  obtain ⟨z0, z1, z2, z3, z4, z5, z6, y0, y1, y2, y3, y4, y5, y6⟩ := ((MsgAt.alloc w 0 0 0 0 0 false ⟨#[]⟩).later hB (by simp)).cells
  have HB := hide hB
  clear hB
  go_wp2
  exact bodyPost_ret (v := .tuple #[.agg #[.int .i64 K, .int .i64 H, .int .i64 R, .int .i64 F, .int .i64 V, .bool nl, .string s], formE b ok]) (by simp [results, Tryd.results12, go_sem, z0, z1, z2, z3, z4, z5, z6]) rfl ⟨rfl, below_setAll (((Below.refl _ w).alloc (Nat.le_refl _) _).trans (HB.out.mono (by simp))) (Nat.le_refl _) _ _ _ _ _ _ _⟩

end Go.Proofs.YtcfjhbcpjpgodaaDoor
