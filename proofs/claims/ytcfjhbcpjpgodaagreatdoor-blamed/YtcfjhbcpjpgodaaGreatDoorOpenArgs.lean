/- Proved here: a list of numbers, and a list of texts, that came in as arguments, as the walk wants them: by number, with the bounds that the second form's bulk gives. -/
import Derived.Test.YtcfjhbcpjpgodaaGreatDoorRows
import Derived.Test.YtcfjhbcpjpgodaaGreatDoorJ3
import Derived.SliceStrings
import Derived.ChangeSlices
import Derived.WideShapes
import Derived.ProofKit
import Derived.OpenShut
namespace Go.Proofs.YtcfjhbcpjpgodaaGreatDoor
open Go.ChangeShapes Go.WideShapes Go.ChangeAt Go.RowKit

set_option maxRecDepth 100000 in
theorem ok_spot {W : World} {base : Nat} {t e : TypeId} {a : Addr} {n cap : Nat} (hu : Tryz.prog.underlying t = some (.slice e)) (h : Value.okWide Tryz.prog W .any base t (.slice (some a) n cap)) : a.spot = none := by
  simp only [Value.okWide, hu, Cell.okWide, Cell.ok] at h
  exact h.2.2.2.1

theorem Tryz.cellsI : Tryz.prog.cellsOf 3 = 1 := by kernel_rfl

end Go.Proofs.YtcfjhbcpjpgodaaGreatDoor
