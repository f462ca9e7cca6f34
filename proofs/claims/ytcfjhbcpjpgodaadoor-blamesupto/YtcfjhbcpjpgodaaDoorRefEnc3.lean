/- Proved here: what the document's own Encode answers at a vote. -/
import Derived.Test.YtcfjhbcpjpgodaaDoorRefEnc0
namespace Go.Proofs.YtcfjhbcpjpgodaaDoor
open Go.RowKit

set_option maxRecDepth 100000 in
set_option maxHeartbeats 2000000 in
theorem refEncode_two (K H R F V : Int) (nl : Bool) (s : ByteArray) (w : World) (hs : s.size ≤ 24) (h1 : 0 ≤ H) (h2 : H < 12) (h3 : 0 ≤ R) (h4 : R ≤ 255) (h5 : 0 ≤ F) (h6 : F < 8) (hK : K = 2 ∨ K = 3) :
    Calls Tryd.prog 11 #[.agg #[.int .i64 K, .int .i64 H, .int .i64 R, .int .i64 F, .int .i64 V, .bool nl, .string s]] w fun e w' => e = .returned (.tuple #[.string (encS K H R F V nl s), .bool (hasB K H R F V nl s.size)]) ∧ Below w.heap.size w w' := by
  have k0 : 2 ≤ K := by omega
  have k1 : K ≤ 3 := by omega
  have k2 : (K == 1) = false := by simp; omega
  have HK : Hid (K = 2 ∨ K = 3) := hK
  clear hK
  by_cases hv : V = 0
  · subst hv
    have hcv := conv6 w
    have hz6 := size6
    cases nl
    · have hy : Hid (hasB K H R F 0 false s.size = true) := by unfold Hid; simp [hasB] <;> omega
      have hm : markOf K 0 false = 0 := by unfold markOf; rw [if_neg (by omega)]; rfl
      have HM := hide hm
      clear hm
      go_enter Tryd.func11, Tryd.ntmps11
      go_wp2
      go_ret2
      exact ⟨ret_str (by rw [encS_yes hy.out, HM.out]; rfl) hy.out.symm, ((Below.refl _ _).alloc (Nat.le_refl _) _).alloc (by simp) _⟩
    · by_cases hz : s.size = 0
      · have hs0 : s = ⟨#[]⟩ := ByteArray.ext (Array.eq_empty_of_size_eq_zero hz)
        subst hs0
        have hy : Hid (hasB K H R F 0 true (⟨#[]⟩ : ByteArray).size = true) := by
          show hasB K H R F 0 true 0 = true
          rw [← hasB_nil K H R F 0 h1 h2 h3 h4 h5 h6 (by omega) HK.out]
          rfl
        have hm : markOf K 0 true = 1 := by unfold markOf; rw [if_neg (by omega)]; rfl
        have HM := hide hm
        clear hm hz
        go_enter Tryd.func11, Tryd.ntmps11
        go_wp2
        go_ret2
        exact ⟨ret_str (by rw [encS_yes hy.out, HM.out]; rfl) hy.out.symm, ((Below.refl _ _).alloc (Nat.le_refl _) _).alloc (by simp) _⟩
      · have he : s.toList.isEmpty = false := by rw [isEmpty_size]; simpa using hz
        have hy : Hid (hasB K H R F 0 true s.size = false) := by
          unfold Hid
          rw [← hasB_nil K H R F s.size h1 h2 h3 h4 h5 h6 hs HK.out]
          simpa using hz
        clear hcv hz6 hz
        go_enter Tryd.func11, Tryd.ntmps11
        go_wp2
        go_ret2
        exact ⟨ret_str (encS_no hy.out).symm hy.out.symm, (Below.refl _ _).alloc (Nat.le_refl _) _⟩
  · have hv' : (V == 0) = false := by simpa using hv
    have hy : Hid (hasB K H R F V nl s.size = false) := by
      have := HK.out
      unfold Hid
      simp [hasB] <;> omega
    cases nl
    · go_enter Tryd.func11, Tryd.ntmps11
      go_wp2
      go_ret2
      exact ⟨ret_str (encS_no hy.out).symm hy.out.symm, (Below.refl _ _).alloc (Nat.le_refl _) _⟩
    · go_enter Tryd.func11, Tryd.ntmps11
      go_wp2
      go_ret2
      exact ⟨ret_str (encS_no hy.out).symm hy.out.symm, (Below.refl _ _).alloc (Nat.le_refl _) _⟩

end Go.Proofs.YtcfjhbcpjpgodaaDoor
