/- Proved here: small laws on rows of messages, shared by those who make and read them. · Proved here: what errors.Is answers of an api.Refused that wraps a sentinel: true at that sentinel, false at another one. -/
import Derived.Test.YtcfjhbcpjpgodaaGreatDoorJ2
import Derived.Test.YtcfjhbcpjpgodaaGreatDoorJ16
import Derived.Test.YtcfjhbcpjpgodaaGreatDoorRowsG
import Derived.Test.YtcfjhbcpjpgodaaGreatDoorJ3
import Derived.Test.YtcfjhbcpjpgodaaGreatDoorJ23
namespace Go.Proofs.YtcfjhbcpjpgodaaGreatDoor
open Go.RowKit

theorem Tryz.infoMsg : (Tryz.prog.info? 57).map (fun i => (i.zero, i.size, i.bytes)) = some (some (.agg #[.int .i64 0, .int .i64 0, .int .i64 0, .int .i64 0, .int .i64 0, .bool false, .string ByteArray.empty]), 7, 64) := by kernel_rfl

/-- Messages as cells. -/
def msgL (l : List MsgV) : List Value := l.flatMap fun m => m.cells.toList

theorem msgL_append (l : List MsgV) (m : MsgV) : msgL (l ++ [m]) = msgL l ++ m.cells.toList := by simp [msgL]

theorem own_keep {w w' : World} {base e size n : Nat} {v : Value} {xs : List Value} (h : w.ownsRow base e size v n xs) (hb : Below w.heap.size w w') : w'.ownsRow base e size v n xs := own_blocks h (fun g _ hg => hb.block g hg)

/-- Messages in memory, by number. -/
def MsgsAt (w : World) (B : Nat) (p : Option Addr) (n : Nat) (ms : Nat → MsgV) : Prop := ∀ i, i < n → ∃ b o, p = some ⟨b, o, none⟩ ∧ b < B ∧ w.rangeAt b (o + i * 7) (ms i).cells.toList

theorem MsgsAt.below {w w' : World} {B : Nat} {p : Option Addr} {n : Nat} {ms : Nat → MsgV} (h : MsgsAt w B p n ms) (hb : Below B w w') : MsgsAt w' B p n ms := fun i hi => by
  obtain ⟨b, o, e, hB, hr⟩ := h i hi
  exact ⟨b, o, e, hB, fun j v hv => (hb.cell (p := ⟨b, o + i * 7 + j, none⟩) (by exact hB)).trans (hr j v hv)⟩

theorem blk {w w' : World} {g : Nat} {o : Obj} (h : w.heap[g]? = some o) (hb : Below w.heap.size w w') : w'.heap[g]? = some o := (hb.block g (row_lt0 h)).trans h

theorem msgL_get (l : List MsgV) (j : Nat) (hj : j < 7) : ∀ i, i < l.length → (msgL l)[i * 7 + j]? = ((l.getD i msg0).cells.toList)[j]? := by
  induction l with
  | nil => intro i hi; simp at hi
  | cons m l ih =>
    intro i hi
    have e : msgL (m :: l) = m.cells.toList ++ msgL l := by simp [msgL]
    have hc : m.cells.toList.length = 7 := by simp [MsgV.cells]
    rw [e]
    cases i with
    | zero =>
      rw [Nat.zero_mul, Nat.zero_add, List.getElem?_append_left (by omega)]
      rfl
    | succ i =>
      rw [List.getElem?_append_right (by omega), hc, show (i + 1) * 7 + j - 7 = i * 7 + j by omega]
      have h2 := ih i (by simpa using hi)
      simpa using h2

/-- A row of messages that is owned, by number. -/
theorem own_msgs {w : World} {base : Nat} {v : Value} {l : List MsgV} (h : w.ownsRow base 57 7 v l.length (msgL l)) : ∃ p c, v = .slice p l.length c ∧ MsgsAt w w.heap.size p l.length (fun i => l.getD i msg0) := by
  rcases h.2 with ⟨rfl, hn⟩ | ⟨g, cap, cur, rfl, hb, hg, hnc, hcm, hcs, ht⟩
  · exact ⟨none, 0, by rw [hn], fun i hi => by omega⟩
  · refine ⟨_, cap, rfl, fun i hi => ⟨g, 0, rfl, row_lt0 hg, fun j v hv => ?_⟩⟩
    rw [cell_of_row w g _ _ _ _ hg, Nat.zero_add]
    have hj : j < 7 := by have := (List.getElem?_eq_some_iff.1 hv).1; simpa [MsgV.cells] using this
    have e1 : (cur.toList.take (l.length * 7))[i * 7 + j]? = (msgL l)[i * 7 + j]? := by rw [ht]
    have hlt : i * 7 + j < l.length * 7 := by
      have : (i + 1) * 7 ≤ l.length * 7 := Nat.mul_le_mul_right 7 (by omega)
      omega
    rw [List.getElem?_take, if_pos hlt] at e1
    rw [← Array.getElem?_toList, e1, ← hv]
    exact msgL_get l j hj i hi

end Go.Proofs.YtcfjhbcpjpgodaaGreatDoor
namespace Go.Proofs.YtcfjhbcpjpgodaaGreatDoor
open Go.RowKit Go.Extern.Stop Go.Stop Go.Extern

theorem Tryz.noIsR (v : Value) (xT : TypeId) (w : World) : (Instr.typeAssert (.iface 158 v) xT 213 true).run Tryz.prog w = .ok (.tuple #[.nilIface, .bool false]) w := run_typeAssert_lacksB Tryz.underlying213 (by kernel_rfl) (by kernel_rfl) v xT w
theorem Tryz.hasUnwrapR (v : Value) (xT : TypeId) (w : World) : (Instr.typeAssert (.iface 158 v) xT 216 true).run Tryz.prog w = .ok (.tuple #[.iface 158 v, .bool true]) w := run_typeAssert_hasB Tryz.underlying216 (by kernel_rfl) v xT w
theorem Tryz.methodUnwrapR (v : Value) (w : World) : (Go.method 423 158 v "Unwrap").run Tryz.prog w = .ok (236, v) w := by kernel_rfl
theorem Tryz.eqlRefErr (p q : Value) (w : World) : (binOp .eql 42 (.iface 158 p) (.iface 294 q)).run Tryz.prog w = .ok (.bool false) w := run_eql_iface_types _ _ _ _ Tryz.underlying42 (by decide) w

set_option maxHeartbeats 1600000 in
theorem is_refused_same (g : Nat) (f : Int) (b : Addr) (w : World) (hr : RefAt w g f b) :
    Calls Tryz.prog 30 #[refV g, .iface 294 (.pointer (some b))] w fun e w' => e = .returned (.bool true) ∧ w' = w := by
  have hc1 : w.cell? ⟨g, 1, none⟩ = some (.iface 294 (.pointer (some b))) := cell_of_row w g 1 _ _ _ hr
  obtain ⟨i, hi, hcmp⟩ := Option.map_eq_some_iff.1 Tryz.isComp
  obtain ⟨j, hj, hjs⟩ := Option.map_eq_some_iff.1 Tryz.isSize
  have h8 := @run_callFunc_extern Tryz.prog 83 _ Extern.ReflectliteType.typeOf Tryz.func83 (by kernel_rfl) (by kernel_rfl) (by kernel_rfl) (by kernel_rfl)
  have h32 := @run_callFunc_extern Tryz.prog 239 _ comparableM Tryz.func239 (by kernel_rfl) (by kernel_rfl) (by kernel_rfl) (by kernel_rfl)
  have tT := Tryz.isTypeOf
  have cT := Tryz.isComparable
  have mR := Tryz.isMethodComparable
  have nR := Tryz.noIsR
  have uR := Tryz.hasUnwrapR
  have mU := Tryz.methodUnwrapR
  have eR := Tryz.eqlRefErr
  have heq := run_eql_iface_ptr_same (P := Tryz.prog) w b Tryz.underlying42 Tryz.underlying294 hi hcmp hj
  clear hr
  unfold refV
  go_enter Tryz.func30, Tryz.ntmps30
  go_wp2
  refine wp_loop_rounds 2 ?_
  rw [rounds_succ]
  go_wp2
  rw [rounds_succ]
  go_wp2
  go_ret
  exact ⟨rfl, rfl⟩

set_option maxHeartbeats 1600000 in
theorem is_refused_other (g : Nat) (f : Int) (a b : Addr) (ca cb : Array Value) (ta tb : TypeId) (w : World) (hr : RefAt w g f a) (hne : a ≠ b) (ha : w.heap[a.block]? = some (.cells ca ta (0, 0))) (hb : w.heap[b.block]? = some (.cells cb tb (0, 0))) :
    Calls Tryz.prog 30 #[refV g, .iface 294 (.pointer (some b))] w fun e w' => e = .returned (.bool false) ∧ w' = w := by
  have hc1 : w.cell? ⟨g, 1, none⟩ = some (.iface 294 (.pointer (some a))) := cell_of_row w g 1 _ _ _ hr
  obtain ⟨i, hi, hcmp⟩ := Option.map_eq_some_iff.1 Tryz.isComp
  obtain ⟨j, hj, hjs⟩ := Option.map_eq_some_iff.1 Tryz.isSize
  have h8 := @run_callFunc_extern Tryz.prog 83 _ Extern.ReflectliteType.typeOf Tryz.func83 (by kernel_rfl) (by kernel_rfl) (by kernel_rfl) (by kernel_rfl)
  have h32 := @run_callFunc_extern Tryz.prog 239 _ comparableM Tryz.func239 (by kernel_rfl) (by kernel_rfl) (by kernel_rfl) (by kernel_rfl)
  have tT := Tryz.isTypeOf
  have cT := Tryz.isComparable
  have mR := Tryz.isMethodComparable
  have nR := Tryz.noIsR
  have uR := Tryz.hasUnwrapR
  have mU := Tryz.methodUnwrapR
  have eR := Tryz.eqlRefErr
  have nE := Tryz.noIsE
  have uE := Tryz.noUnwrapE
  have vE := Tryz.noUnwrapsE
  have heq := run_eql_iface_ptr_other (P := Tryz.prog) w Tryz.underlying42 Tryz.underlying294 hi hcmp hj (by rw [hjs]; decide) hne ha hb
  clear hr ha hb
  unfold refV
  go_enter Tryz.func30, Tryz.ntmps30
  go_wp2
  refine wp_loop_rounds 2 ?_
  rw [rounds_succ]
  go_wp2
  rw [rounds_succ]
  go_wp2
  go_ret
  exact ⟨rfl, rfl⟩

end Go.Proofs.YtcfjhbcpjpgodaaGreatDoor
