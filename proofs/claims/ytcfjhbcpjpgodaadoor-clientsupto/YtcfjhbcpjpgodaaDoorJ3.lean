/- Proved here: plain facts on when a message has a frame. · Proved here: what Encode answers, as a plain function of the message. · Proved here: what the document's own Encode answers at a message whose plain parts are out of range. · Proved here: what the document's own Encode answers at a proposal. · Proved here: what the document's own Encode answers at a vote. · Proved here: what the document's own Encode answers at every message. -/
import Derived.Test.YtcfjhbcpjpgodaaDoorBase
import Derived.Laws.BytesArg
namespace Go.Proofs.YtcfjhbcpjpgodaaDoor
open Go.RowKit

/-- Has a message a frame? -/
def hasB (K H R F V : Int) (nl : Bool) (n : Nat) : Bool :=
  decide (0 ≤ H ∧ H < 12 ∧ 0 ≤ R ∧ R ≤ 255 ∧ 0 ≤ F ∧ F < 8 ∧ n ≤ 24 ∧ ((K = 1 ∧ nl = false ∧ -1 ≤ V ∧ V < R) ∨ ((K = 2 ∨ K = 3) ∧ V = 0 ∧ (nl = false ∨ n = 0))))

theorem isEmpty_size (s : ByteArray) : s.toList.isEmpty = decide (s.size = 0) := by
  rw [ByteArray.toList_eq, Bool.eq_iff_iff, List.isEmpty_iff, decide_eq_true_eq, ← List.length_eq_zero_iff]
  simp

theorem hasB_nil (K H R F : Int) (n : Nat) (h1 : 0 ≤ H) (h2 : H < 12) (h3 : 0 ≤ R) (h4 : R ≤ 255) (h5 : 0 ≤ F) (h6 : F < 8) (_h7 : n ≤ 24) (hk : K = 2 ∨ K = 3) : decide (n = 0) = hasB K H R F 0 true n := by
  unfold hasB
  rw [decide_eq_decide]
  simp
  omega

theorem ret_bool {a b : Bool} (h : a = b) : Ending.returned (.bool a) = .returned (.bool b) := by rw [h]

/-- The fifth byte of a message's frame. -/
def markOf (K V : Int) (nl : Bool) : Int := if K = 1 then V + 1 else if nl then 1 else 0

theorem ret_int {k : IntKind} {a b : Int} (h : a = b) : Ending.returned (.int k a) = .returned (.int k b) := by rw [h]

end Go.Proofs.YtcfjhbcpjpgodaaDoor
namespace Go.Proofs.YtcfjhbcpjpgodaaDoor
open Go.RowKit

/-- A message's frame. -/
def frameOf (K H R F M : Int) (s : ByteArray) : ByteArray := strOfNums [K, H, R, F, M, s.size] ++ s

/-- A new block of six bytes, as a string. -/
theorem conv6 (w : World) (o : Obj) (x0 x1 x2 x3 x4 x5 : Int) :
    (convert 90 9 (.slice (some ⟨w.heap.size + 1, 0, none⟩) 6 6)).run Tryd.prog ((w.alloc o).alloc (.cells #[.int .u8 x0, .int .u8 x1, .int .u8 x2, .int .u8 x3, .int .u8 x4, .int .u8 x5] 5)) =
      .ok (.string (strOfNums [x0, x1, x2, x3, x4, x5])) ((w.alloc o).alloc (.cells #[.int .u8 x0, .int .u8 x1, .int .u8 x2, .int .u8 x3, .int .u8 x4, .int .u8 x5] 5)) :=
  run_convert_bytes_arg _ 90 5 Tryd.underlying90 Tryd.underlying5 (w.heap.size + 1) 0 6 6 [x0, x1, x2, x3, x4, x5] rfl (fun i hi => by
    match i, hi with
    | 0, _ | 1, _ | 2, _ | 3, _ | 4, _ | 5, _ => simp) 9 Tryd.underlying9

theorem size6 (x0 x1 x2 x3 x4 x5 : Int) : (strOfNums [x0, x1, x2, x3, x4, x5]).size = 6 := strOfNums_size _

/-- What Encode answers: the frame, or nothing. -/
def encS (K H R F V : Int) (nl : Bool) (s : ByteArray) : ByteArray := if hasB K H R F V nl s.size = true then frameOf K H R F (markOf K V nl) s else ⟨#[]⟩

theorem encS_yes {K H R F V : Int} {nl : Bool} {s : ByteArray} (h : hasB K H R F V nl s.size = true) : encS K H R F V nl s = frameOf K H R F (markOf K V nl) s := by unfold encS; rw [if_pos h]
theorem encS_no {K H R F V : Int} {nl : Bool} {s : ByteArray} (h : hasB K H R F V nl s.size = false) : encS K H R F V nl s = ⟨#[]⟩ := by unfold encS; rw [if_neg (by simp [h])]

theorem ret_str {a b : ByteArray} {c d : Bool} (h : a = b) (h' : c = d) : Ending.returned (.tuple #[.string a, .bool c]) = .returned (.tuple #[.string b, .bool d]) := by rw [h, h']

theorem flag_small (V : Int) (h : V < -1) (hU : -9223372036854775808 ≤ V) : wrap64 (V + 1) < 0 := by
  unfold wrap64
  omega

theorem flag_big (V R : Int) (h3 : 0 ≤ R) (h4 : R ≤ 255) (h : R ≤ V) (hV : V ≤ 9223372036854775807) : wrap64 (V + 1) < 0 ∨ R < wrap64 (V + 1) := by
  unfold wrap64
  omega

end Go.Proofs.YtcfjhbcpjpgodaaDoor
namespace Go.Proofs.YtcfjhbcpjpgodaaDoor
open Go.RowKit

set_option maxRecDepth 100000 in
set_option maxHeartbeats 1000000 in
theorem refEncode_no (K H R F V : Int) (nl : Bool) (s : ByteArray) (w : World) (hs : s.size ≤ maxLen) (h : K < 1 ∨ 3 < K ∨ H < 0 ∨ 12 ≤ H ∨ R < 0 ∨ 255 < R ∨ F < 0 ∨ 8 ≤ F ∨ 24 < (s.size : Int)) :
    Calls Tryd.prog 11 #[.agg #[.int .i64 K, .int .i64 H, .int .i64 R, .int .i64 F, .int .i64 V, .bool nl, .string s]] w fun e w' => e = .returned (.tuple #[.string (encS K H R F V nl s), .bool (hasB K H R F V nl s.size)]) ∧ Below w.heap.size w w' := by
  unfold maxLen at hs
  by_cases c0 : K < 1
  · clear h
    go_enter Tryd.func11, Tryd.ntmps11
    go_wp2
    go_ret2
    exact ⟨ret_str (encS_no (by simp [hasB] <;> omega)).symm (by simp [hasB] <;> omega), (Below.refl _ _).alloc (Nat.le_refl _) _⟩
  by_cases c1 : 3 < K
  · clear h
    go_enter Tryd.func11, Tryd.ntmps11
    go_wp2
    go_ret2
    exact ⟨ret_str (encS_no (by simp [hasB] <;> omega)).symm (by simp [hasB] <;> omega), (Below.refl _ _).alloc (Nat.le_refl _) _⟩
  by_cases c2 : H < 0
  · clear h
    go_enter Tryd.func11, Tryd.ntmps11
    go_wp2
    go_ret2
    exact ⟨ret_str (encS_no (by simp [hasB] <;> omega)).symm (by simp [hasB] <;> omega), (Below.refl _ _).alloc (Nat.le_refl _) _⟩
  by_cases c3 : 12 ≤ H
  · clear h
    go_enter Tryd.func11, Tryd.ntmps11
    go_wp2
    go_ret2
    exact ⟨ret_str (encS_no (by simp [hasB] <;> omega)).symm (by simp [hasB] <;> omega), (Below.refl _ _).alloc (Nat.le_refl _) _⟩
  by_cases c4 : R < 0
  · clear h
    go_enter Tryd.func11, Tryd.ntmps11
    go_wp2
    go_ret2
    exact ⟨ret_str (encS_no (by simp [hasB] <;> omega)).symm (by simp [hasB] <;> omega), (Below.refl _ _).alloc (Nat.le_refl _) _⟩
  by_cases c5 : 255 < R
  · clear h
    go_enter Tryd.func11, Tryd.ntmps11
    go_wp2
    go_ret2
    exact ⟨ret_str (encS_no (by simp [hasB] <;> omega)).symm (by simp [hasB] <;> omega), (Below.refl _ _).alloc (Nat.le_refl _) _⟩
  by_cases c6 : F < 0
  · clear h
    go_enter Tryd.func11, Tryd.ntmps11
    go_wp2
    go_ret2
    exact ⟨ret_str (encS_no (by simp [hasB] <;> omega)).symm (by simp [hasB] <;> omega), (Below.refl _ _).alloc (Nat.le_refl _) _⟩
  by_cases c7 : 8 ≤ F
  · clear h
    go_enter Tryd.func11, Tryd.ntmps11
    go_wp2
    go_ret2
    exact ⟨ret_str (encS_no (by simp [hasB] <;> omega)).symm (by simp [hasB] <;> omega), (Below.refl _ _).alloc (Nat.le_refl _) _⟩
  have c8 : 24 < (s.size : Int) := by omega
  clear h
  go_enter Tryd.func11, Tryd.ntmps11
  go_wp2
  go_ret2
  exact ⟨ret_str (encS_no (by simp [hasB] <;> omega)).symm (by simp [hasB] <;> omega), (Below.refl _ _).alloc (Nat.le_refl _) _⟩

end Go.Proofs.YtcfjhbcpjpgodaaDoor
namespace Go.Proofs.YtcfjhbcpjpgodaaDoor
open Go.RowKit

set_option maxRecDepth 100000 in
set_option maxHeartbeats 2000000 in
theorem refEncode_one (H R F V : Int) (nl : Bool) (s : ByteArray) (w : World) (hs : s.size ≤ 24) (h1 : 0 ≤ H) (h2 : H < 12) (h3 : 0 ≤ R) (h4 : R ≤ 255) (h5 : 0 ≤ F) (h6 : F < 8) (hV : V ≤ 9223372036854775807) (hU : -9223372036854775808 ≤ V) :
    Calls Tryd.prog 11 #[.agg #[.int .i64 1, .int .i64 H, .int .i64 R, .int .i64 F, .int .i64 V, .bool nl, .string s]] w fun e w' => e = .returned (.tuple #[.string (encS 1 H R F V nl s), .bool (hasB 1 H R F V nl s.size)]) ∧ Below w.heap.size w w' := by
  have hf := flag_big V R h3 h4
  have hg := flag_small V
  by_cases h7 : -1 ≤ V
  · by_cases h8 : V < R
    · clear hf hV hg hU
      have h8' : V + 1 ≤ R := by omega
      have h8'' : 0 ≤ V + 1 := by omega
      have hcv := conv6 w
      have hz6 := size6
      cases nl
      · have hy : Hid (hasB 1 H R F V false s.size = true) := by unfold Hid; simp [hasB] <;> omega
        go_enter Tryd.func11, Tryd.ntmps11
        go_wp2
        go_ret2
        exact ⟨ret_str (encS_yes hy.out).symm hy.out.symm, ((Below.refl _ _).alloc (Nat.le_refl _) _).alloc (by simp) _⟩
      · clear hcv hz6
        go_enter Tryd.func11, Tryd.ntmps11
        go_wp2
        go_ret2
        exact ⟨ret_str (encS_no (by simp [hasB] <;> omega)).symm (by simp [hasB] <;> omega), (Below.refl _ _).alloc (Nat.le_refl _) _⟩
    · rcases hf (by omega) hV with hw | hw
      · clear hf hV hg hU
        cases nl
        · go_enter Tryd.func11, Tryd.ntmps11
          go_wp2
          go_ret2
          exact ⟨ret_str (encS_no (by simp [hasB] <;> omega)).symm (by simp [hasB] <;> omega), (Below.refl _ _).alloc (Nat.le_refl _) _⟩
        · go_enter Tryd.func11, Tryd.ntmps11
          go_wp2
          go_ret2
          exact ⟨ret_str (encS_no (by simp [hasB] <;> omega)).symm (by simp [hasB] <;> omega), (Below.refl _ _).alloc (Nat.le_refl _) _⟩
      · clear hf hV hg hU
        have hw' : 0 ≤ wrap64 (V + 1) := by omega
        cases nl
        · go_enter Tryd.func11, Tryd.ntmps11
          go_wp2
          go_ret2
          exact ⟨ret_str (encS_no (by simp [hasB] <;> omega)).symm (by simp [hasB] <;> omega), (Below.refl _ _).alloc (Nat.le_refl _) _⟩
        · go_enter Tryd.func11, Tryd.ntmps11
          go_wp2
          go_ret2
          exact ⟨ret_str (encS_no (by simp [hasB] <;> omega)).symm (by simp [hasB] <;> omega), (Below.refl _ _).alloc (Nat.le_refl _) _⟩
  · have hw := hg (by omega) hU
    clear hf hV hg hU
    cases nl
    · go_enter Tryd.func11, Tryd.ntmps11
      go_wp2
      go_ret2
      exact ⟨ret_str (encS_no (by simp [hasB] <;> omega)).symm (by simp [hasB] <;> omega), (Below.refl _ _).alloc (Nat.le_refl _) _⟩
    · go_enter Tryd.func11, Tryd.ntmps11
      go_wp2
      go_ret2
      exact ⟨ret_str (encS_no (by simp [hasB] <;> omega)).symm (by simp [hasB] <;> omega), (Below.refl _ _).alloc (Nat.le_refl _) _⟩

end Go.Proofs.YtcfjhbcpjpgodaaDoor
namespace Go.Proofs.YtcfjhbcpjpgodaaDoor
open Go.RowKit

set_option maxRecDepth 100000 in
set_option maxHeartbeats 2000000 in
theorem refEncode_two (K H R F V : Int) (nl : Bool) (s : ByteArray) (w : World) (hs : s.size ≤ 24) (h1 : 0 ≤ H) (h2 : H < 12) (h3 : 0 ≤ R) (h4 : R ≤ 255) (h5 : 0 ≤ F) (h6 : F < 8) (hK : K = 2 ∨ K = 3) :
    Calls Tryd.prog 11 #[.agg #[.int .i64 K, .int .i64 H, .int .i64 R, .int .i64 F, .int .i64 V, .bool nl, .string s]] w fun e w' => e = .returned (.tuple #[.string (encS K H R F V nl s), .bool (hasB K H R F V nl s.size)]) ∧ Below w.heap.size w w' := by
  have k0 : 2 ≤ K := by omega
  have k1 : K ≤ 3 := by omega
  have k2 : (K == 1) = false := by simp; omega
  have HK : Hid (K = 2 ∨ K = 3) := hK
  clear hK
  by_cases hv : V = 0
  · subst hv
    have hcv := conv6 w
    have hz6 := size6
    cases nl
    · have hy : Hid (hasB K H R F 0 false s.size = true) := by unfold Hid; simp [hasB] <;> omega
      have hm : markOf K 0 false = 0 := by unfold markOf; rw [if_neg (by omega)]; rfl
      have HM := hide hm
      clear hm
      go_enter Tryd.func11, Tryd.ntmps11
      go_wp2
      go_ret2
      exact ⟨ret_str (by rw [encS_yes hy.out, HM.out]; rfl) hy.out.symm, ((Below.refl _ _).alloc (Nat.le_refl _) _).alloc (by simp) _⟩
    · by_cases hz : s.size = 0
      · have hs0 : s = ⟨#[]⟩ := ByteArray.ext (Array.eq_empty_of_size_eq_zero hz)
        subst hs0
        have hy : Hid (hasB K H R F 0 true (⟨#[]⟩ : ByteArray).size = true) := by
          show hasB K H R F 0 true 0 = true
          rw [← hasB_nil K H R F 0 h1 h2 h3 h4 h5 h6 (by omega) HK.out]
          rfl
        have hm : markOf K 0 true = 1 := by unfold markOf; rw [if_neg (by omega)]; rfl
        have HM := hide hm
        clear hm hz
        go_enter Tryd.func11, Tryd.ntmps11
        go_wp2
        go_ret2
        exact ⟨ret_str (by rw [encS_yes hy.out, HM.out]; rfl) hy.out.symm, ((Below.refl _ _).alloc (Nat.le_refl _) _).alloc (by simp) _⟩
      · have he : s.toList.isEmpty = false := by rw [isEmpty_size]; simpa using hz
        have hy : Hid (hasB K H R F 0 true s.size = false) := by
          unfold Hid
          rw [← hasB_nil K H R F s.size h1 h2 h3 h4 h5 h6 hs HK.out]
          simpa using hz
        clear hcv hz6 hz
        go_enter Tryd.func11, Tryd.ntmps11
        go_wp2
        go_ret2
        exact ⟨ret_str (encS_no hy.out).symm hy.out.symm, (Below.refl _ _).alloc (Nat.le_refl _) _⟩
  · have hv' : (V == 0) = false := by simpa using hv
    have hy : Hid (hasB K H R F V nl s.size = false) := by
      have := HK.out
      unfold Hid
      simp [hasB] <;> omega
    cases nl
    · go_enter Tryd.func11, Tryd.ntmps11
      go_wp2
      go_ret2
      exact ⟨ret_str (encS_no hy.out).symm hy.out.symm, (Below.refl _ _).alloc (Nat.le_refl _) _⟩
    · go_enter Tryd.func11, Tryd.ntmps11
      go_wp2
      go_ret2
      exact ⟨ret_str (encS_no hy.out).symm hy.out.symm, (Below.refl _ _).alloc (Nat.le_refl _) _⟩

end Go.Proofs.YtcfjhbcpjpgodaaDoor
namespace Go.Proofs.YtcfjhbcpjpgodaaDoor
open Go.RowKit

/-- The document's Encode, at every message. -/
theorem refEncode_any (K H R F V : Int) (nl : Bool) (s : ByteArray) (w : World) (hs : s.size ≤ maxLen) (hV : V ≤ 9223372036854775807) (hU : -9223372036854775808 ≤ V) :
    Calls Tryd.prog 11 #[.agg #[.int .i64 K, .int .i64 H, .int .i64 R, .int .i64 F, .int .i64 V, .bool nl, .string s]] w fun e w' => e = .returned (.tuple #[.string (encS K H R F V nl s), .bool (hasB K H R F V nl s.size)]) ∧ Below w.heap.size w w' := by
  by_cases h : K < 1 ∨ 3 < K ∨ H < 0 ∨ 12 ≤ H ∨ R < 0 ∨ 255 < R ∨ F < 0 ∨ 8 ≤ F ∨ 24 < (s.size : Int)
  · exact refEncode_no K H R F V nl s w hs h
  · by_cases hk : K = 1
    · subst hk
      exact refEncode_one H R F V nl s w (by omega) (by omega) (by omega) (by omega) (by omega) (by omega) (by omega) hV hU
    · exact refEncode_two K H R F V nl s w (by omega) (by omega) (by omega) (by omega) (by omega) (by omega) (by omega) (by omega)

end Go.Proofs.YtcfjhbcpjpgodaaDoor
