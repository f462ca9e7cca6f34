/- Proved here: what the document's own Decode answers at every text. -/
import Derived.Test.YtcfjhbcpjpgodaaDoorRefEnc
import Derived.Test.YtcfjhbcpjpgodaaDoorDec0
import Derived.Deep.QuietTactic
import Derived.BigQuiet
import Derived.BigRegion
import Derived.Deep.RegionWith
import Derived.WalkSmall
namespace Go.Proofs.YtcfjhbcpjpgodaaDoor
open Go.RowKit

set_option maxRecDepth 100000 in
set_option maxHeartbeats 800000 in
theorem refDecode_short (t : ByteArray) (w : World) (h : t.size < 6) :
    Calls Tryd.prog 13 #[.string t] w fun e w' => e = .returned (.tuple #[.agg #[.int .i64 0, .int .i64 0, .int .i64 0, .int .i64 0, .int .i64 0, .bool false, .string ⟨#[]⟩], .bool false]) ∧ Below w.heap.size w w' := by
  have h' : (t.size : Int) < 6 := by omega
  go_enter Tryd.func13, Tryd.ntmps13
  go_wp2
  exact bodyPost_ret (v := .tuple #[.agg #[.int .i64 0, .int .i64 0, .int .i64 0, .int .i64 0, .int .i64 0, .bool false, .string ⟨#[]⟩], .bool false]) (by simp [results, Tryd.results13, go_sem]) rfl ⟨rfl, (Below.refl _ _).alloc (Nat.le_refl _) _⟩

theorem decB_no {k0 k1 k2 k3 k4 k5 : Int} {n : Nat} (h : hasB k0 k1 k2 k3 (vOf k0 k4) (nlOf k0 k4) n = false) : decB k0 k1 k2 k3 k4 k5 n = false := by
  unfold decB
  rw [h]
  rfl

theorem dec_no {k0 k1 k2 k3 k4 k5 : Int} {s : ByteArray} (h : decB k0 k1 k2 k3 k4 k5 s.size = false) :
    Ending.returned (.tuple #[.agg #[.int .i64 0, .int .i64 0, .int .i64 0, .int .i64 0, .int .i64 0, .bool false, .string ⟨#[]⟩], .bool false]) = .returned (.tuple #[decM k0 k1 k2 k3 k4 k5 s, .bool (decB k0 k1 k2 k3 k4 k5 s.size)]) := by
  unfold decM
  rw [h, if_neg (by simp)]

theorem dec_yes {k0 k1 k2 k3 k4 k5 V : Int} {nl : Bool} {s : ByteArray} (h : decB k0 k1 k2 k3 k4 k5 s.size = true) (hv : vOf k0 k4 = V) (hn : nlOf k0 k4 = nl) :
    Ending.returned (.tuple #[.agg #[.int .i64 k0, .int .i64 k1, .int .i64 k2, .int .i64 k3, .int .i64 V, .bool nl, .string s], .bool true]) = .returned (.tuple #[decM k0 k1 k2 k3 k4 k5 s, .bool (decB k0 k1 k2 k3 k4 k5 s.size)]) := by
  unfold decM
  rw [h, if_pos rfl, hv, hn]

end Go.Proofs.YtcfjhbcpjpgodaaDoor
