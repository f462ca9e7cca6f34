/- Proved here: what a message that comes in as an argument is made of. -/
import Derived.Test.YtcfjhbcpjpgodaaDoorRows
import Derived.ProofKit
import Derived.OpenShut
import Derived.Lib.SmallJoins
namespace Go.Proofs.YtcfjhbcpjpgodaaDoor
open Go.ChangeShapes Go.WideShapes Go.ChangeAt Go.RowKit

theorem Tryd.cellsMsg : Tryd.prog.cellsOf 28 = 7 := by kernel_rfl
theorem Tryd.cellsInt : Tryd.prog.cellsOf 3 = 1 := by kernel_rfl
theorem Tryd.cellsBool : Tryd.prog.cellsOf 4 = 1 := by kernel_rfl
theorem Tryd.cellsStr : Tryd.prog.cellsOf 9 = 1 := by kernel_rfl

set_option maxRecDepth 100000 in
theorem open_msg {H : Type} {enc : TypeId × Value → H} {W : World} {base b0 : Nat} {sp : Nat → Bool} {held : Bool} {r : Reach} {v : Value} {d : DataW H} {p : List MemPlace}
    (hv : Value.okWide Tryd.prog W r b0 28 v) (h : DataW.Trod enc Tryd.prog W base sp held 28 v d p) :
    ∃ (K H R F V : Int) (nl : Bool) (s : ByteArray), v = .agg #[.int .i64 K, .int .i64 H, .int .i64 R, .int .i64 F, .int .i64 V, .bool nl, .string s] ∧ p = [] ∧ V ≤ 9223372036854775807 ∧ -9223372036854775808 ≤ V ∧ s.size ≤ maxLen := by
  obtain ⟨cs, rfl, hsz⟩ := okWide_struct Tryd.underlying28 hv
  obtain ⟨l⟩ := cs
  obtain ⟨fuel, hf0⟩ := h
  obtain ⟨xs, n, _, hx, hl, hlen, hf⟩ := DataW.trod_struct Tryd.underlying28 hf0
  have hl7 : l.length = 7 := by have := hsz; rw [Tryd.cellsMsg] at this; simpa using this
  match l, hl7, xs, hlen with
  | [c0, c1, c2, c3, c4, c5, c6], _, [y0, y1, y2, y3, y4, y5, y6], _ =>
    have t0 := hf 0 _ rfl
    have t1 := hf 1 _ rfl
    have t2 := hf 2 _ rfl
    have t3 := hf 3 _ rfl
    have t4 := hf 4 _ rfl
    have t5 := hf 5 _ rfl
    have t6 := hf 6 _ rfl
    simp [Value.cells, Tryd.cellsInt, Tryd.cellsBool, Tryd.cellsStr] at t0 t1 t2 t3 t4 t5 t6
    obtain ⟨K, e0, rfl, _⟩ := DataW.trod_int Tryd.underlying3 t0
    obtain ⟨H', e1, rfl, _⟩ := DataW.trod_int Tryd.underlying3 t1
    obtain ⟨R, e2, rfl, _⟩ := DataW.trod_int Tryd.underlying3 t2
    obtain ⟨F, e3, rfl, _⟩ := DataW.trod_int Tryd.underlying3 t3
    obtain ⟨V, e4, rfl, wV⟩ := DataW.trod_int Tryd.underlying3 t4
    obtain ⟨nl, e5, rfl⟩ := DataW.trod_bool Tryd.underlying4 t5
    obtain ⟨s, e6, rfl, hs⟩ := DataW.trod_string Tryd.underlying9 t6
    simp only [List.cons.injEq, and_true] at e0 e1 e2 e3 e4 e5 e6
    subst e0 e1 e2 e3 e4 e5 e6
    refine ⟨K, H', R, F, V, nl, s, rfl, ?_, (bounds_i64 wV).2, (bounds_i64 wV).1, hs⟩
    have := congrArg (·.2) hx
    simpa using this

end Go.Proofs.YtcfjhbcpjpgodaaDoor
