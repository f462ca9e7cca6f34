/- Proved here: two rows of eight numbers compared: equal just if each is. -/
import Derived.Test.YtcfjhbcpjpgodaaDoorReg1
import Derived.ChangeKeysEq
namespace Go.Proofs.YtcfjhbcpjpgodaaDoor
open Go.RowKit

theorem Tryd.infoIntSome : (Tryd.prog.info? 3).isSome = true := by kernel_rfl
theorem Tryd.cellsInt1 : Tryd.prog.cellsOf 3 = 1 := by kernel_rfl
theorem Tryd.partInt (xs : Array Value) (off : Nat) (v : Value) (h : xs[off]? = some v) (w : World) : (part 3 xs off).run Tryd.prog w = .ok v w := by
  have ha : (isAgg 3).run Tryd.prog w = .ok false w := by kernel_rfl
  unfold part
  simp only [Sem.run_bind, ha, Result.andThen_ok]
  simp [h]

theorem eqItems_ints (d : Nat) (xs ys : Array Value) (x y : Nat → Int) (w : World) : ∀ is : List Nat, (∀ i, i ∈ is → xs[i]? = some (.int .i64 (x i)) ∧ ys[i]? = some (.int .i64 (y i))) →
    (Op.eqItems (d + 1) 3 1 xs ys is).run Tryd.prog w = .ok (is.all fun i => x i == y i) w
  | [], _ => by simp [Op.eqItems]
  | i :: is, h => by
    have h0 := h i (by simp)
    have ih := eqItems_ints d xs ys x y w is (fun j hj => h j (by simp [hj]))
    have p1 := Tryd.partInt xs i _ h0.1 w
    have p2 := Tryd.partInt ys i _ h0.2 w
    have p3 := run_equalIn_int (P := Tryd.prog) w d 3 .i64 .i64 (x i) (y i) Tryd.underlying3
    simp only [Op.eqItems, Nat.mul_one, Sem.run_bind, p1, p2, p3, Result.andThen_ok]
    cases hxy : (x i == y i)
    · simp [hxy]
    · simp [hxy, ih]

/-- Eight numbers in a row. -/
theorem eq8 (x y : Nat → Int) (w : World) : (Op.equalIn 10000 51 (.agg #[.int .i64 (x 0), .int .i64 (x 1), .int .i64 (x 2), .int .i64 (x 3), .int .i64 (x 4), .int .i64 (x 5), .int .i64 (x 6), .int .i64 (x 7)]) (.agg #[.int .i64 (y 0), .int .i64 (y 1), .int .i64 (y 2), .int .i64 (y 3), .int .i64 (y 4), .int .i64 (y 5), .int .i64 (y 6), .int .i64 (y 7)])).run Tryd.prog w = .ok ((List.range 8).all fun i => x i == y i) w := by
  obtain ⟨i, hi⟩ := Option.isSome_iff_exists.1 Tryd.infoIntSome
  rw [run_equalIn_array w 9999 _ _ Tryd.underlying51 hi, Tryd.cellsInt1]
  refine eqItems_ints 9998 _ _ x y w (List.range 8) (fun j hj => ?_)
  have hj' : j < 8 := by simpa using hj
  match j, hj' with
  | 0, _ | 1, _ | 2, _ | 3, _ | 4, _ | 5, _ | 6, _ | 7, _ => simp

end Go.Proofs.YtcfjhbcpjpgodaaDoor
