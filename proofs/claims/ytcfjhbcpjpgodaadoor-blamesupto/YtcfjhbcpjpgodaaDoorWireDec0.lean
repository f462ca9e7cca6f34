/- Proved here: what wire.Decode answers at a text that is too short, or whose sixth byte does not tell its length: nothing, and ErrForm. -/
import Derived.Test.YtcfjhbcpjpgodaaDoorMsgAt
import Derived.Test.YtcfjhbcpjpgodaaDoorWire1
namespace Go.Proofs.YtcfjhbcpjpgodaaDoor
open Go.RowKit

set_option maxRecDepth 100000 in
set_option maxHeartbeats 800000 in
theorem wireDecode_short (t : ByteArray) (b : Addr) (w : World) (h : t.size < 6) (hb : w.cell? ⟨1, 0, none⟩ = some (.iface 188 (.pointer (some b)))) :
    Calls Tryd.prog 38 #[.string t] w fun e w' => e = .returned (.tuple #[.agg #[.int .i64 0, .int .i64 0, .int .i64 0, .int .i64 0, .int .i64 0, .bool false, .string ⟨#[]⟩], .iface 188 (.pointer (some b))]) ∧ Below w.heap.size w w' := by
  have h' : (t.size : Int) < 6 := by omega
  have hc := cell?_alloc_old (.cells #[.int .i64 0, .int .i64 0, .int .i64 0, .int .i64 0, .int .i64 0, .bool false, .string ⟨#[]⟩] 28) hb
  go_enter Tryd.func38, Tryd.ntmps38
  go_wp2
  go_region
  go_wp2
  exact bodyPost_ret (v := .tuple #[.agg #[.int .i64 0, .int .i64 0, .int .i64 0, .int .i64 0, .int .i64 0, .bool false, .string ⟨#[]⟩], .iface 188 (.pointer (some b))]) (by simp [results, Tryd.results38, go_sem]) rfl ⟨rfl, ((Below.refl _ _).alloc (Nat.le_refl _) _).drew⟩

set_option maxRecDepth 100000 in
set_option maxHeartbeats 800000 in
theorem wireDecode_size (t : ByteArray) (k0 k1 k2 k3 k4 k5 : Int) (s : ByteArray) (b : Addr) (w : World) (hp : Parts t k0 k1 k2 k3 k4 k5 s) (h5 : (s.size : Int) ≠ k5) (hb : w.cell? ⟨1, 0, none⟩ = some (.iface 188 (.pointer (some b)))) :
    Calls Tryd.prog 38 #[.string t] w fun e w' => e = .returned (.tuple #[.agg #[.int .i64 0, .int .i64 0, .int .i64 0, .int .i64 0, .int .i64 0, .bool false, .string ⟨#[]⟩], .iface 188 (.pointer (some b))]) ∧ Below w.heap.size w w' := by
  have a5 := hp.at5
  have b5 := hp.b5
  have h6 : ¬ (t.size : Int) < 6 := by have := hp.size; omega
  have ht : ((t.size : Int) != 6 + k5) = true := by have := hp.size; simp; omega
  have hc := cell?_alloc_old (.cells #[.int .i64 0, .int .i64 0, .int .i64 0, .int .i64 0, .int .i64 0, .bool false, .string ⟨#[]⟩] 28) hb
  clear hp h5
  go_enter Tryd.func38, Tryd.ntmps38
  go_wp2
  go_region
  go_wp2
  exact bodyPost_ret (v := .tuple #[.agg #[.int .i64 0, .int .i64 0, .int .i64 0, .int .i64 0, .int .i64 0, .bool false, .string ⟨#[]⟩], .iface 188 (.pointer (some b))]) (by simp [results, Tryd.results38, go_sem]) rfl ⟨rfl, ((Below.refl _ _).alloc (Nat.le_refl _) _).drew⟩

end Go.Proofs.YtcfjhbcpjpgodaaDoor
