/- Proved here: what wire.Encode answers at a message that has a frame: the frame, and no error. -/
import Derived.Test.YtcfjhbcpjpgodaaDoorRefEnc0
import Derived.Test.YtcfjhbcpjpgodaaDoorWire1
import Derived.Lib.BufferWrite
import Derived.Laws.MakeOwn
import Derived.Deep.QuietTactic
import Derived.BigQuiet
import Derived.Deep.RegionWith
namespace Go.Proofs.YtcfjhbcpjpgodaaDoor
open Go.RowKit

theorem Tryd.infoByte : (Tryd.prog.info? 5).map (fun i => (i.size, i.bytes, i.zero)) = some (1, 1, some (.int .u8 0)) := by kernel_rfl

theorem nums_bytes (s : ByteArray) : strOfNums (s.data.toList.map fun b => (b.toNat : Int)) = s := by
  apply ByteArray.ext
  apply Array.toList_inj.1
  show (List.map _ _).toArray.toList = _
  rw [List.toList_toArray, List.map_map]
  conv => rhs; rw [← List.map_id s.data.toList]
  apply List.map_congr_left
  intro x _
  simp

theorem nums_append (a b : List Int) : strOfNums (a ++ b) = strOfNums a ++ strOfNums b := by
  apply ByteArray.ext
  apply Array.toList_inj.1
  simp [strOfNums]

/-- A row of bytes that holds a head and a text, as a string. -/
theorem conv_row (W : World) (g : Nat) (Y : Array Value) (K H R F m : Int) (s : ByteArray) (hg : W.heap[g]? = some (.cells Y 5 (0, 0)))
    (hY : Y.toList = [.int .u8 K, .int .u8 H, .int .u8 R, .int .u8 F, .int .u8 m, .int .u8 s.size] ++ Lib.byteCells s.data.toList) :
    (convert 90 9 (.slice (some ⟨g, 0, none⟩) (6 + s.size) (6 + s.size))).run Tryd.prog W = .ok (.string (frameOf K H R F m s)) W := by
  have h := run_convert_bytes_arg (P := Tryd.prog) W 90 5 Tryd.underlying90 Tryd.underlying5 g 0 (6 + s.size) (6 + s.size) ([K, H, R, F, m, s.size] ++ s.data.toList.map fun b => (b.toNat : Int)) (by simp; omega) (fun i hi => by
    have e : Y.toList[i]? = some (.int .u8 (([K, H, R, F, m, (s.size : Int)] ++ s.data.toList.map fun b => (b.toNat : Int)).getD i 0)) := by
      rw [hY]
      have e2 : [Value.int .u8 K, .int .u8 H, .int .u8 R, .int .u8 F, .int .u8 m, .int .u8 s.size] ++ Lib.byteCells s.data.toList = ([K, H, R, F, m, (s.size : Int)] ++ s.data.toList.map fun b => (b.toNat : Int)).map (Value.int .u8) := by
        simp [Lib.byteCells]
      rw [e2, List.getElem?_map, List.getD_eq_getElem?_getD]
      have hlt : i < ([K, H, R, F, m, (s.size : Int)] ++ s.data.toList.map fun b => (b.toNat : Int)).length := by simp; omega
      rw [List.getElem?_eq_getElem hlt]
      rfl
    rw [Nat.zero_add]
    simp only [World.cell?, hg]
    rw [← Array.getElem?_toList]
    exact e) 9 Tryd.underlying9
  rw [h, nums_append, nums_bytes]
  rfl

theorem six_set (M : Array Value) (n : Nat) (z a0 a1 a2 a3 a4 a5 : Value) (h : M.toList = List.replicate (6 + n) z) :
    ((((((M.setIfInBounds 0 a0).setIfInBounds 1 a1).setIfInBounds 2 a2).setIfInBounds 3 a3).setIfInBounds 4 a4).setIfInBounds 5 a5).toList = [a0, a1, a2, a3, a4, a5] ++ List.replicate n z := by
  have e : List.replicate (6 + n) z = z :: z :: z :: z :: z :: z :: List.replicate n z := by rw [Nat.add_comm]; rfl
  simp only [Array.toList_setIfInBounds, h, e]
  rfl

end Go.Proofs.YtcfjhbcpjpgodaaDoor
