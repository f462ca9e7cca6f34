/- Proved here: what wire.Encode and synod.Encode answer at every message: its frame and no error, or nothing and ErrForm. -/
import Derived.Test.YtcfjhbcpjpgodaaDoorWireEncA
import Derived.Test.YtcfjhbcpjpgodaaDoorWireEncB
import Derived.Test.YtcfjhbcpjpgodaaDoorWireEncC
import Derived.WalkSmall
namespace Go.Proofs.YtcfjhbcpjpgodaaDoor
open Go.RowKit

/-- The second sentinel, or no error. -/
def formE (b : Addr) (ok : Bool) : Value := if ok = true then .nilIface else .iface 188 (.pointer (some b))

theorem ret_form {a b : ByteArray} {u v : Value} (h : a = b) (h' : u = v) : Ending.returned (.tuple #[.string a, u]) = .returned (.tuple #[.string b, v]) := by rw [h, h']

set_option maxHeartbeats 400000 in
theorem wireEncode_no (K H R F V : Int) (nl : Bool) (s : ByteArray) (b : Addr) (w : World) (hs : s.size ≤ maxLen) (hb : w.cell? ⟨1, 0, none⟩ = some (.iface 188 (.pointer (some b)))) (h : hasB K H R F V nl s.size = false) :
    Calls Tryd.prog 37 #[.agg #[.int .i64 K, .int .i64 H, .int .i64 R, .int .i64 F, .int .i64 V, .bool nl, .string s]] w fun e w' => e = .returned (.tuple #[.string ⟨#[]⟩, .iface 188 (.pointer (some b))]) ∧ Below w.heap.size w w' := by
  have HH := hide h
  have hlt := World.block_lt_of_cell? _ _ hb
  clear h
  go_enter Tryd.func37, Tryd.ntmps37
  go_wp2_with fail
  refine (hasFrame_any K H R F V nl s _ hs).mono ?_
  rw [HH.out]
  rintro e w1 ⟨rfl, hb1⟩
  have hc : w1.cell? ⟨1, 0, none⟩ = some (.iface 188 (.pointer (some b))) := by
    rw [hb1.cell (p := ⟨1, 0, none⟩) (by simp at hlt ⊢; omega)]
    exact cell?_alloc_old _ hb
  have HB := hide hb1
  clear hb1
  go_wp2
  go_quiet (fail)
  go_wp2
  go_ret2
  exact ⟨rfl, below_drewN (((Below.refl _ w).alloc (Nat.le_refl _) _).trans (HB.out.mono (by simp))) _⟩

/-- wire.Encode at every message. -/
theorem wireEncode_any (K H R F V : Int) (nl : Bool) (s : ByteArray) (b : Addr) (w : World) (hs : s.size ≤ maxLen) (hb : w.cell? ⟨1, 0, none⟩ = some (.iface 188 (.pointer (some b)))) :
    Calls Tryd.prog 37 #[.agg #[.int .i64 K, .int .i64 H, .int .i64 R, .int .i64 F, .int .i64 V, .bool nl, .string s]] w fun e w' => e = .returned (.tuple #[.string (encS K H R F V nl s), formE b (hasB K H R F V nl s.size)]) ∧ Below w.heap.size w w' := by
  by_cases h : hasB K H R F V nl s.size = true
  · have h' := of_decide_eq_true h
    obtain ⟨h1, h2, h3, h4, h5, h6, h7, h8⟩ := h'
    rcases h8 with ⟨rfl, rfl, v1, v2⟩ | ⟨hk, rfl, hn⟩
    · refine (wireEncode_a H R F V s w h7 h1 h2 h3 h4 h5 h6 v1 v2).mono ?_
      rintro e w' ⟨rfl, hB⟩
      exact ⟨ret_form (by rw [encS_yes h]; rfl) (by rw [h]; rfl), hB⟩
    · have hk1 : K ≠ 1 := by omega
      cases nl
      · refine (wireEncode_b K H R F s w h7 h1 h2 h3 h4 h5 h6 (by omega) (by omega)).mono ?_
        rintro e w' ⟨rfl, hB⟩
        exact ⟨ret_form (by rw [encS_yes h]; simp [markOf, hk1]) (by rw [h]; rfl), hB⟩
      · refine (wireEncode_c K H R F s w h7 h1 h2 h3 h4 h5 h6 (by omega) (by omega) (by simpa using hn)).mono ?_
        rintro e w' ⟨rfl, hB⟩
        exact ⟨ret_form (by rw [encS_yes h]; simp [markOf, hk1]) (by rw [h]; rfl), hB⟩
  · have h' : hasB K H R F V nl s.size = false := by simpa using h
    refine (wireEncode_no K H R F V nl s b w hs hb h').mono ?_
    rintro e w' ⟨rfl, hB⟩
    exact ⟨ret_form (encS_no h').symm (by rw [h']; rfl), hB⟩

set_option maxHeartbeats 400000 in
/-- synod.Encode at every message. -/
theorem synodEncode_any (K H R F V : Int) (nl : Bool) (s : ByteArray) (b : Addr) (w : World) (hs : s.size ≤ maxLen) (hb : w.cell? ⟨1, 0, none⟩ = some (.iface 188 (.pointer (some b)))) :
    Calls Tryd.prog 10 #[.agg #[.int .i64 K, .int .i64 H, .int .i64 R, .int .i64 F, .int .i64 V, .bool nl, .string s]] w fun e w' => e = .returned (.tuple #[.string (encS K H R F V nl s), formE b (hasB K H R F V nl s.size)]) ∧ Below w.heap.size w w' := by
  have hb1 := fun o => cell?_alloc_old o hb
  go_enter Tryd.func10, Tryd.ntmps10
  go_wp2_with fail
  refine (wireEncode_any K H R F V nl s b _ hs (hb1 _)).mono ?_
  rintro e w1 ⟨rfl, hB⟩
  go_wp2
  go_ret2
  exact ⟨rfl, ((Below.refl _ w).alloc (Nat.le_refl _) _).trans (hB.mono (by simp))⟩

end Go.Proofs.YtcfjhbcpjpgodaaDoor
