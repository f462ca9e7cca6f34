/- Proved here: what the document's own Encode answers at every message. -/
import Derived.Test.YtcfjhbcpjpgodaaDoorRefEnc1
import Derived.Test.YtcfjhbcpjpgodaaDoorRefEnc2
import Derived.Test.YtcfjhbcpjpgodaaDoorRefEnc3
namespace Go.Proofs.YtcfjhbcpjpgodaaDoor
open Go.RowKit

/-- The document's Encode, at every message. -/
theorem refEncode_any (K H R F V : Int) (nl : Bool) (s : ByteArray) (w : World) (hs : s.size ≤ maxLen) (hV : V ≤ 9223372036854775807) (hU : -9223372036854775808 ≤ V) :
    Calls Tryd.prog 11 #[.agg #[.int .i64 K, .int .i64 H, .int .i64 R, .int .i64 F, .int .i64 V, .bool nl, .string s]] w fun e w' => e = .returned (.tuple #[.string (encS K H R F V nl s), .bool (hasB K H R F V nl s.size)]) ∧ Below w.heap.size w w' := by
  by_cases h : K < 1 ∨ 3 < K ∨ H < 0 ∨ 12 ≤ H ∨ R < 0 ∨ 255 < R ∨ F < 0 ∨ 8 ≤ F ∨ 24 < (s.size : Int)
  · exact refEncode_no K H R F V nl s w hs h
  · by_cases hk : K = 1
    · subst hk
      exact refEncode_one H R F V nl s w (by omega) (by omega) (by omega) (by omega) (by omega) (by omega) (by omega) hV hU
    · exact refEncode_two K H R F V nl s w (by omega) (by omega) (by omega) (by omega) (by omega) (by omega) (by omega) (by omega)

end Go.Proofs.YtcfjhbcpjpgodaaDoor
