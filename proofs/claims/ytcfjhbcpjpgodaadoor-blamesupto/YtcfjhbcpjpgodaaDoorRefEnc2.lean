/- Proved here: what the document's own Encode answers at a proposal. -/
import Derived.Test.YtcfjhbcpjpgodaaDoorRefEnc0
namespace Go.Proofs.YtcfjhbcpjpgodaaDoor
open Go.RowKit

set_option maxRecDepth 100000 in
set_option maxHeartbeats 2000000 in
theorem refEncode_one (H R F V : Int) (nl : Bool) (s : ByteArray) (w : World) (hs : s.size ≤ 24) (h1 : 0 ≤ H) (h2 : H < 12) (h3 : 0 ≤ R) (h4 : R ≤ 255) (h5 : 0 ≤ F) (h6 : F < 8) (hV : V ≤ 9223372036854775807) (hU : -9223372036854775808 ≤ V) :
    Calls Tryd.prog 11 #[.agg #[.int .i64 1, .int .i64 H, .int .i64 R, .int .i64 F, .int .i64 V, .bool nl, .string s]] w fun e w' => e = .returned (.tuple #[.string (encS 1 H R F V nl s), .bool (hasB 1 H R F V nl s.size)]) ∧ Below w.heap.size w w' := by
  have hf := flag_big V R h3 h4
  have hg := flag_small V
  by_cases h7 : -1 ≤ V
  · by_cases h8 : V < R
    · clear hf hV hg hU
      have h8' : V + 1 ≤ R := by omega
      have h8'' : 0 ≤ V + 1 := by omega
      have hcv := conv6 w
      have hz6 := size6
      cases nl
      · have hy : Hid (hasB 1 H R F V false s.size = true) := by unfold Hid; simp [hasB] <;> omega
        go_enter Tryd.func11, Tryd.ntmps11
        go_wp2
        go_ret2
        exact ⟨ret_str (encS_yes hy.out).symm hy.out.symm, ((Below.refl _ _).alloc (Nat.le_refl _) _).alloc (by simp) _⟩
      · clear hcv hz6
        go_enter Tryd.func11, Tryd.ntmps11
        go_wp2
        go_ret2
        exact ⟨ret_str (encS_no (by simp [hasB] <;> omega)).symm (by simp [hasB] <;> omega), (Below.refl _ _).alloc (Nat.le_refl _) _⟩
    · rcases hf (by omega) hV with hw | hw
      · clear hf hV hg hU
        cases nl
        · go_enter Tryd.func11, Tryd.ntmps11
          go_wp2
          go_ret2
          exact ⟨ret_str (encS_no (by simp [hasB] <;> omega)).symm (by simp [hasB] <;> omega), (Below.refl _ _).alloc (Nat.le_refl _) _⟩
        · go_enter Tryd.func11, Tryd.ntmps11
          go_wp2
          go_ret2
          exact ⟨ret_str (encS_no (by simp [hasB] <;> omega)).symm (by simp [hasB] <;> omega), (Below.refl _ _).alloc (Nat.le_refl _) _⟩
      · clear hf hV hg hU
        have hw' : 0 ≤ wrap64 (V + 1) := by omega
        cases nl
        · go_enter Tryd.func11, Tryd.ntmps11
          go_wp2
          go_ret2
          exact ⟨ret_str (encS_no (by simp [hasB] <;> omega)).symm (by simp [hasB] <;> omega), (Below.refl _ _).alloc (Nat.le_refl _) _⟩
        · go_enter Tryd.func11, Tryd.ntmps11
          go_wp2
          go_ret2
          exact ⟨ret_str (encS_no (by simp [hasB] <;> omega)).symm (by simp [hasB] <;> omega), (Below.refl _ _).alloc (Nat.le_refl _) _⟩
  · have hw := hg (by omega) hU
    clear hf hV hg hU
    cases nl
    · go_enter Tryd.func11, Tryd.ntmps11
      go_wp2
      go_ret2
      exact ⟨ret_str (encS_no (by simp [hasB] <;> omega)).symm (by simp [hasB] <;> omega), (Below.refl _ _).alloc (Nat.le_refl _) _⟩
    · go_enter Tryd.func11, Tryd.ntmps11
      go_wp2
      go_ret2
      exact ⟨ret_str (encS_no (by simp [hasB] <;> omega)).symm (by simp [hasB] <;> omega), (Below.refl _ _).alloc (Nat.le_refl _) _⟩

end Go.Proofs.YtcfjhbcpjpgodaaDoor
