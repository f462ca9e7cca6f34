/- Proved here: what Encode answers, as a plain function of the message. -/
import Derived.Test.YtcfjhbcpjpgodaaDoorEncPure
import Derived.Laws.BytesArg
namespace Go.Proofs.YtcfjhbcpjpgodaaDoor
open Go.RowKit

/-- A message's frame. -/
def frameOf (K H R F M : Int) (s : ByteArray) : ByteArray := strOfNums [K, H, R, F, M, s.size] ++ s

/-- A new block of six bytes, as a string. -/
theorem conv6 (w : World) (o : Obj) (x0 x1 x2 x3 x4 x5 : Int) :
    (convert 90 9 (.slice (some ⟨w.heap.size + 1, 0, none⟩) 6 6)).run Tryd.prog ((w.alloc o).alloc (.cells #[.int .u8 x0, .int .u8 x1, .int .u8 x2, .int .u8 x3, .int .u8 x4, .int .u8 x5] 5)) =
      .ok (.string (strOfNums [x0, x1, x2, x3, x4, x5])) ((w.alloc o).alloc (.cells #[.int .u8 x0, .int .u8 x1, .int .u8 x2, .int .u8 x3, .int .u8 x4, .int .u8 x5] 5)) :=
  run_convert_bytes_arg _ 90 5 Tryd.underlying90 Tryd.underlying5 (w.heap.size + 1) 0 6 6 [x0, x1, x2, x3, x4, x5] rfl (fun i hi => by
    match i, hi with
    | 0, _ | 1, _ | 2, _ | 3, _ | 4, _ | 5, _ => simp) 9 Tryd.underlying9

theorem size6 (x0 x1 x2 x3 x4 x5 : Int) : (strOfNums [x0, x1, x2, x3, x4, x5]).size = 6 := strOfNums_size _

/-- What Encode answers: the frame, or nothing. -/
def encS (K H R F V : Int) (nl : Bool) (s : ByteArray) : ByteArray := if hasB K H R F V nl s.size = true then frameOf K H R F (markOf K V nl) s else ⟨#[]⟩

theorem encS_yes {K H R F V : Int} {nl : Bool} {s : ByteArray} (h : hasB K H R F V nl s.size = true) : encS K H R F V nl s = frameOf K H R F (markOf K V nl) s := by unfold encS; rw [if_pos h]
theorem encS_no {K H R F V : Int} {nl : Bool} {s : ByteArray} (h : hasB K H R F V nl s.size = false) : encS K H R F V nl s = ⟨#[]⟩ := by unfold encS; rw [if_neg (by simp [h])]

theorem ret_str {a b : ByteArray} {c d : Bool} (h : a = b) (h' : c = d) : Ending.returned (.tuple #[.string a, .bool c]) = .returned (.tuple #[.string b, .bool d]) := by rw [h, h']

theorem flag_small (V : Int) (h : V < -1) (hU : -9223372036854775808 ≤ V) : wrap64 (V + 1) < 0 := by
  unfold wrap64
  omega

theorem flag_big (V R : Int) (h3 : 0 ≤ R) (h4 : R ≤ 255) (h : R ≤ V) (hV : V ≤ 9223372036854775807) : wrap64 (V + 1) < 0 ∨ R < wrap64 (V + 1) := by
  unfold wrap64
  omega

end Go.Proofs.YtcfjhbcpjpgodaaDoor
