/- Proved here: what the document's own Decode answers at every text of six bytes or more. -/
import Derived.Test.YtcfjhbcpjpgodaaDoorRefDecA
import Derived.Test.YtcfjhbcpjpgodaaDoorRefDecB
import Derived.Test.YtcfjhbcpjpgodaaDoorRefDecC
namespace Go.Proofs.YtcfjhbcpjpgodaaDoor
open Go.RowKit

/-- The document's Decode, at every text of six bytes or more. -/
theorem refDecode_any (t : ByteArray) (k0 k1 k2 k3 k4 k5 : Int) (s : ByteArray) (w : World) (hs : t.size ≤ maxLen) (hp : Parts t k0 k1 k2 k3 k4 k5 s) :
    Calls Tryd.prog 13 #[.string t] w fun e w' => e = .returned (.tuple #[decM k0 k1 k2 k3 k4 k5 s, .bool (decB k0 k1 k2 k3 k4 k5 s.size)]) ∧ Below w.heap.size w w' := by
  by_cases hk : k0 = 1
  · subst hk
    exact refDecode_a t k1 k2 k3 k4 k5 s w hs hp
  · by_cases hk4 : k4 = 1
    · subst hk4
      exact refDecode_b t k0 k1 k2 k3 k5 s w hs hp hk
    · exact refDecode_c t k0 k1 k2 k3 k4 k5 s w hs hp hk hk4

end Go.Proofs.YtcfjhbcpjpgodaaDoor
