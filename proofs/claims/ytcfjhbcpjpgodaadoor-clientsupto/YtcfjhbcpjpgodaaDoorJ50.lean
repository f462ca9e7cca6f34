/- Proved here: what a message that comes in as an argument is made of. · Proved here: a list of numbers, and a list of texts, that came in as arguments, as the walk wants them: by number, with the bounds that the second form's bulk gives. · Proved here: a list of messages that came in as an argument, as the walk wants it: by number. · Proved here: a list of tries that came in as an argument, as the walk wants it: by number. -/
import Derived.Test.YtcfjhbcpjpgodaaDoorRows
import Derived.ProofKit
import Derived.OpenShut
import Derived.Lib.SmallJoins
import Derived.Test.YtcfjhbcpjpgodaaDoorJ6
import Derived.SliceStrings
import Derived.ChangeSlices
import Derived.WideShapes
import Derived.Test.YtcfjhbcpjpgodaaDoorJ16
import Derived.Deep.Slices
import Derived.Test.YtcfjhbcpjpgodaaDoorTryRow
namespace Go.Proofs.YtcfjhbcpjpgodaaDoor
open Go.ChangeShapes Go.WideShapes Go.ChangeAt Go.RowKit

theorem Tryd.cellsMsg : Tryd.prog.cellsOf 28 = 7 := by kernel_rfl
theorem Tryd.cellsInt : Tryd.prog.cellsOf 3 = 1 := by kernel_rfl
theorem Tryd.cellsBool : Tryd.prog.cellsOf 4 = 1 := by kernel_rfl
theorem Tryd.cellsStr : Tryd.prog.cellsOf 9 = 1 := by kernel_rfl

set_option maxRecDepth 100000 in
theorem open_msg {H : Type} {enc : TypeId × Value → H} {W : World} {base b0 : Nat} {sp : Nat → Bool} {held : Bool} {r : Reach} {v : Value} {d : DataW H} {p : List MemPlace}
    (hv : Value.okWide Tryd.prog W r b0 28 v) (h : DataW.Trod enc Tryd.prog W base sp held 28 v d p) :
    ∃ (K H R F V : Int) (nl : Bool) (s : ByteArray), v = .agg #[.int .i64 K, .int .i64 H, .int .i64 R, .int .i64 F, .int .i64 V, .bool nl, .string s] ∧ p = [] ∧ V ≤ 9223372036854775807 ∧ -9223372036854775808 ≤ V ∧ s.size ≤ maxLen := by
  obtain ⟨cs, rfl, hsz⟩ := okWide_struct Tryd.underlying28 hv
  obtain ⟨l⟩ := cs
  obtain ⟨fuel, hf0⟩ := h
  obtain ⟨xs, n, _, hx, hl, hlen, hf⟩ := DataW.trod_struct Tryd.underlying28 hf0
  have hl7 : l.length = 7 := by have := hsz; rw [Tryd.cellsMsg] at this; simpa using this
  match l, hl7, xs, hlen with
  | [c0, c1, c2, c3, c4, c5, c6], _, [y0, y1, y2, y3, y4, y5, y6], _ =>
    have t0 := hf 0 _ rfl
    have t1 := hf 1 _ rfl
    have t2 := hf 2 _ rfl
    have t3 := hf 3 _ rfl
    have t4 := hf 4 _ rfl
    have t5 := hf 5 _ rfl
    have t6 := hf 6 _ rfl
    simp [Value.cells, Tryd.cellsInt, Tryd.cellsBool, Tryd.cellsStr] at t0 t1 t2 t3 t4 t5 t6
    obtain ⟨K, e0, rfl, _⟩ := DataW.trod_int Tryd.underlying3 t0
    obtain ⟨H', e1, rfl, _⟩ := DataW.trod_int Tryd.underlying3 t1
    obtain ⟨R, e2, rfl, _⟩ := DataW.trod_int Tryd.underlying3 t2
    obtain ⟨F, e3, rfl, _⟩ := DataW.trod_int Tryd.underlying3 t3
    obtain ⟨V, e4, rfl, wV⟩ := DataW.trod_int Tryd.underlying3 t4
    obtain ⟨nl, e5, rfl⟩ := DataW.trod_bool Tryd.underlying4 t5
    obtain ⟨s, e6, rfl, hs⟩ := DataW.trod_string Tryd.underlying9 t6
    simp only [List.cons.injEq, and_true] at e0 e1 e2 e3 e4 e5 e6
    subst e0 e1 e2 e3 e4 e5 e6
    refine ⟨K, H', R, F, V, nl, s, rfl, ?_, (bounds_i64 wV).2, (bounds_i64 wV).1, hs⟩
    have := congrArg (·.2) hx
    simpa using this

end Go.Proofs.YtcfjhbcpjpgodaaDoor
namespace Go.Proofs.YtcfjhbcpjpgodaaDoor
open Go.ChangeShapes Go.WideShapes Go.ChangeAt Go.RowKit

theorem bulk_pos {H : Type} (d : DataW H) : 1 ≤ Rows.uptoBulk d := by
  cases d with
  | lit l => cases l <;> simp [Rows.uptoBulk]
  | nil => simp [Rows.uptoBulk]
  | ptr d => simp [Rows.uptoBulk]
  | slice elems spare => simp [Rows.uptoBulk]
  | agg parts => simp [Rows.uptoBulk]
  | iface t d => simp [Rows.uptoBulk]
  | map entries => simp [Rows.uptoBulk]
  | held h => simp [Rows.uptoBulk]

theorem bulk_len {H : Type} : ∀ l : List (DataW H), l.length ≤ Rows.uptoBulkAll l
  | [] => Nat.zero_le _
  | x :: l => by
    have h1 := bulk_pos x
    have h2 := bulk_len l
    simp only [Rows.uptoBulkAll, List.length_cons]
    omega

theorem bulk_mem {H : Type} {d : DataW H} : ∀ {l : List (DataW H)}, d ∈ l → Rows.uptoBulk d ≤ Rows.uptoBulkAll l
  | x :: l, h => by
    simp only [Rows.uptoBulkAll]
    rcases List.mem_cons.1 h with rfl | h
    · omega
    · have := bulk_mem h
      omega

set_option maxRecDepth 100000 in
theorem ok_spot {W : World} {base : Nat} {t e : TypeId} {a : Addr} {n cap : Nat} (hu : Tryd.prog.underlying t = some (.slice e)) (h : Value.okWide Tryd.prog W .any base t (.slice (some a) n cap)) : a.spot = none := by
  simp only [Value.okWide, hu, Cell.okWide, Cell.ok] at h
  exact h.2.2.2.1

theorem Tryd.cellsI : Tryd.prog.cellsOf 3 = 1 := by kernel_rfl

set_option maxRecDepth 100000 in
theorem open_nums {H : Type} {enc : TypeId × Value → H} {W : World} {base : Nat} {v : Value} {d : DataW H} {p : List MemPlace} (hv : Value.okWide Tryd.prog W .any base 38 v) (h : DataW.Trod enc Tryd.prog W 0 (fun _ => true) true 38 v d p) :
    ∃ (pa : Option Addr) (n cap : Nat) (g : Nat → Int), v = .slice pa n cap ∧ NilOr pa n cap ∧ Lies W W.heap.size pa n (fun i => .int .i64 (g i)) ∧ n ≤ Rows.uptoBulk d ∧ ∀ x ∈ p, x.block < W.heap.size := by
  obtain ⟨pa, n, cap, rfl⟩ := okWide_slice Tryd.underlying38 hv
  obtain ⟨fuel, hf⟩ := h
  have hf' : DataW.trod enc Tryd.prog W 0 (fun _ => true) true fuel 38 [.slice pa n cap] = some (d, p) := hf
  rcases open_ints Tryd.underlying38 Tryd.underlying3 Tryd.cellsI hf' with ⟨hcs, hx⟩ | ⟨a, len, cap', zs, hcs, _, hl, hm, hz, hx, hcell, _⟩
  · simp at hcs hx
    obtain ⟨rfl, rfl, rfl⟩ := hcs
    obtain ⟨rfl, rfl⟩ := hx
    exact ⟨none, 0, 0, fun _ => 0, rfl, Or.inl ⟨rfl, rfl, rfl⟩, fun i hi => by omega, Nat.zero_le _, fun x hx => by cases hx⟩
  · simp at hcs hx
    obtain ⟨rfl, rfl, rfl⟩ := hcs
    obtain ⟨rfl, rfl⟩ := hx
    simp only [if_true] at hz
    obtain ⟨b, o, sp⟩ := a
    obtain rfl : sp = none := ok_spot Tryd.underlying38 hv
    have hc2 : ∀ i, i < zs.length → W.cell? ⟨b, o + i, none⟩ = some (.int .i64 (zs.getD i 0)) := fun i hi => by rw [← addr_add]; exact hcell i hi
    refine ⟨_, n, cap, fun i => zs.getD i 0, rfl, Or.inr ⟨b, o, rfl⟩, fun i hi => ⟨b, o, rfl, World.block_lt_of_cell? _ _ (hc2 i (by omega)), hc2 i (by omega)⟩, ?_, fun x hx => ?_⟩
    · have h1 := bulk_len (H := H) (lits .i64 (zs.take n))
      have h2 : (lits (H := H) .i64 (zs.take n)).length = n := by simp [lits]; omega
      simp only [Rows.uptoBulk]
      omega
    · simp only [MemPlace.row, List.mem_map, List.mem_range] at hx
      obtain ⟨i, hi, rfl⟩ := hx
      exact World.block_lt_of_cell? _ _ (hc2 i hi)

set_option maxRecDepth 100000 in
theorem open_texts {H : Type} {enc : TypeId × Value → H} {W : World} {base : Nat} {v : Value} {d : DataW H} {p : List MemPlace} (hv : Value.okWide Tryd.prog W .any base 39 v) (h : DataW.Trod enc Tryd.prog W 0 (fun _ => true) true 39 v d p) :
    ∃ (pa : Option Addr) (l : List ByteArray) (cap : Nat), v = .slice pa l.length cap ∧ NilOr pa l.length cap ∧ Lies W W.heap.size pa l.length (fun i => .string (l.getD i ByteArray.empty)) ∧ l.length ≤ Rows.uptoBulk d ∧ (∀ i, i < l.length → (l.getD i ByteArray.empty).size ≤ Rows.uptoBulk d) ∧ ∀ x ∈ p, x.block < W.heap.size := by
  obtain ⟨pa, n, cap, rfl⟩ := okWide_slice Tryd.underlying39 hv
  obtain ⟨fuel, hf⟩ := h
  have hf' : DataW.trod enc Tryd.prog W 0 (fun _ => true) true fuel 39 [.slice pa n cap] = some (d, p) := hf
  rcases open_strings Tryd.underlying39 Tryd.underlying9 Tryd.cellsS hf' with ⟨hcs, hx⟩ | ⟨a, len, cap', ss, hcs, _, hl, hm, hz, hx, hcell, _⟩
  · simp at hcs hx
    obtain ⟨rfl, rfl, rfl⟩ := hcs
    obtain ⟨rfl, rfl⟩ := hx
    exact ⟨none, [], 0, rfl, Or.inl ⟨rfl, rfl, rfl⟩, fun i hi => (by cases hi), Nat.zero_le _, fun i hi => (by cases hi), fun x hx => (by cases hx)⟩
  · simp at hcs hx
    obtain ⟨rfl, rfl, rfl⟩ := hcs
    obtain ⟨rfl, rfl⟩ := hx
    simp only [if_true] at hz
    obtain ⟨b, o, sp⟩ := a
    obtain rfl : sp = none := ok_spot Tryd.underlying39 hv
    have hc2 : ∀ i, i < ss.length → W.cell? ⟨b, o + i, none⟩ = some (.string (ss.getD i ByteArray.empty)) := fun i hi => by rw [← addr_add]; exact hcell i hi
    have hln : (ss.take n).length = n := by simp; omega
    have hget : ∀ i, i < n → (ss.take n).getD i ByteArray.empty = ss.getD i ByteArray.empty := fun i hi => by
      rw [List.getD_eq_getElem?_getD, List.getD_eq_getElem?_getD, List.getElem?_take, if_pos hi]
    refine ⟨_, ss.take n, cap, by rw [hln], Or.inr ⟨b, o, rfl⟩, fun i hi => ⟨b, o, rfl, World.block_lt_of_cell? _ _ (hc2 i (by omega)), ?_⟩, ?_, fun i hi => ?_, fun x hx => ?_⟩
    · rw [hc2 i (by omega)]
      show _ = some (Value.string ((ss.take n).getD i ByteArray.empty))
      rw [hget i (by omega)]
    · have h1 := bulk_len (H := H) (strs (ss.take n))
      have h2 : (strs (H := H) (ss.take n)).length = n := by simp [strs]; omega
      simp only [Rows.uptoBulk]
      omega
    · have hm2 : DataW.lit (H := H) (.string ((ss.take n).getD i ByteArray.empty).data.toList) ∈ strs (H := H) (ss.take n) := by
        unfold strs
        rw [List.mem_map]
        refine ⟨(ss.take n).getD i ByteArray.empty, ?_, rfl⟩
        rw [List.getD_eq_getElem?_getD, List.getElem?_eq_getElem hi]
        exact List.getElem_mem hi
      have h1 := bulk_mem hm2
      have h2 : ((ss.take n).getD i ByteArray.empty).data.toList.length = ((ss.take n).getD i ByteArray.empty).size := by simp
      simp only [Rows.uptoBulk] at h1 ⊢
      omega
    · simp only [MemPlace.row, List.mem_map, List.mem_range] at hx
      obtain ⟨i, hi, rfl⟩ := hx
      exact World.block_lt_of_cell? _ _ (hc2 i hi)

end Go.Proofs.YtcfjhbcpjpgodaaDoor
namespace Go.Proofs.YtcfjhbcpjpgodaaDoor
open Go.ChangeShapes Go.WideShapes Go.ChangeAt Go.RowKit

set_option maxRecDepth 100000 in
/-- One message's cells, read. -/
theorem msg_of_cells {H : Type} {enc : TypeId × Value → H} {W : World} {base fuel : Nat} {sp : Nat → Bool} {held : Bool} {cs : List Value} {d : DataW H} {p : List MemPlace} (hl : cs.length = 7) (h : DataW.trod enc Tryd.prog W base sp held fuel 28 cs = some (d, p)) :
    p = [] ∧ ∃ m : MsgV, cs = m.cells.toList ∧ m.s.size ≤ maxLen ∧ m.v ≤ 9223372036854775807 ∧ -9223372036854775808 ≤ m.v := by
  obtain ⟨xs, n, _, hx, _, hlen, hf⟩ := DataW.trod_struct Tryd.underlying28 h
  match cs, hl, xs, hlen with
  | [c0, c1, c2, c3, c4, c5, c6], _, [y0, y1, y2, y3, y4, y5, y6], _ =>
    have t0 := hf 0 _ rfl
    have t1 := hf 1 _ rfl
    have t2 := hf 2 _ rfl
    have t3 := hf 3 _ rfl
    have t4 := hf 4 _ rfl
    have t5 := hf 5 _ rfl
    have t6 := hf 6 _ rfl
    simp [Tryd.cellsInt, Tryd.cellsBool, Tryd.cellsStr] at t0 t1 t2 t3 t4 t5 t6
    obtain ⟨K, e0, rfl, _⟩ := DataW.trod_int Tryd.underlying3 t0
    obtain ⟨H', e1, rfl, _⟩ := DataW.trod_int Tryd.underlying3 t1
    obtain ⟨R, e2, rfl, _⟩ := DataW.trod_int Tryd.underlying3 t2
    obtain ⟨F, e3, rfl, _⟩ := DataW.trod_int Tryd.underlying3 t3
    obtain ⟨V, e4, rfl, wV⟩ := DataW.trod_int Tryd.underlying3 t4
    obtain ⟨nl, e5, rfl⟩ := DataW.trod_bool Tryd.underlying4 t5
    obtain ⟨s, e6, rfl, hs⟩ := DataW.trod_string Tryd.underlying9 t6
    simp only [List.cons.injEq, and_true] at e0 e1 e2 e3 e4 e5 e6
    subst e0 e1 e2 e3 e4 e5 e6
    refine ⟨?_, ⟨K, H', R, F, V, nl, s⟩, rfl, hs, (bounds_i64 wV).2, (bounds_i64 wV).1⟩
    have := congrArg (·.2) hx
    simpa using this

set_option maxRecDepth 100000 in
theorem open_msgs {H : Type} {enc : TypeId × Value → H} {W : World} {base : Nat} {v : Value} {d : DataW H} {p : List MemPlace} (hv : Value.okWide Tryd.prog W .any base 76 v) (h : DataW.Trod enc Tryd.prog W 0 (fun _ => true) true 76 v d p) :
    ∃ (pa : Option Addr) (n cap : Nat) (ms : Nat → MsgV), v = .slice pa n cap ∧ MsgsAt W W.heap.size pa n ms ∧ (∀ i, i < n → (ms i).s.size ≤ maxLen ∧ (ms i).v ≤ 9223372036854775807 ∧ -9223372036854775808 ≤ (ms i).v) ∧ n ≤ Rows.uptoBulk d ∧ ∀ x ∈ p, x.block < W.heap.size := by
  obtain ⟨pa, n, cap, rfl⟩ := okWide_slice Tryd.underlying76 hv
  obtain ⟨fuel, hf⟩ := h
  have hf' : DataW.trod enc Tryd.prog W 0 (fun _ => true) true fuel 76 [.slice pa n cap] = some (d, p) := hf
  rcases Deep.open_slice Tryd.underlying76 hf' with ⟨hcs, hx⟩ | ⟨a, len, cap', m, k, D, Pl, hcs, _, hl, hm, hmm, hx, hel⟩
  · simp at hcs hx
    obtain ⟨rfl, rfl, rfl⟩ := hcs
    obtain ⟨rfl, rfl⟩ := hx
    exact ⟨none, 0, 0, fun _ => msg0, rfl, fun i hi => by omega, fun i hi => by omega, Nat.zero_le _, fun x hx => by cases hx⟩
  · simp only [List.cons.injEq, Value.slice.injEq, and_true] at hcs
    obtain ⟨rfl, rfl, rfl⟩ := hcs
    simp only [Prod.mk.injEq] at hx
    obtain ⟨rfl, rfl⟩ := hx
    simp only [if_true] at hmm
    obtain ⟨b, o, sp⟩ := a
    obtain rfl : sp = none := ok_spot Tryd.underlying76 hv
    rw [Tryd.cellsMsg] at hel ⊢
    have each : ∀ i, i < m → ∃ q : MsgV, Pl i = [] ∧ W.rangeAt b (o + i * 7) q.cells.toList ∧ q.s.size ≤ maxLen ∧ q.v ≤ 9223372036854775807 ∧ -9223372036854775808 ≤ q.v := fun i hi => by
      obtain ⟨cs', h1, h2⟩ := hel i hi
      obtain ⟨_, hlen, hcell⟩ := World.cells?_some h1
      obtain ⟨hp, q, rfl, hq⟩ := msg_of_cells hlen h2
      refine ⟨q, hp, fun j u hj => ?_, hq⟩
      have hj7 : j < 7 := by have := (List.getElem?_eq_some_iff.1 hj).1; omega
      have e := hcell j (by omega)
      rw [addr_add, addr_add] at e
      rw [e, ← hj]
    haveI : Inhabited MsgV := ⟨msg0⟩
    obtain ⟨ms, hms⟩ := Deep.choose_lt each
    refine ⟨some ⟨b, o, none⟩, n, cap, ms, rfl, fun i hi => ⟨b, o, rfl, ?_, (hms i (by omega)).2.1⟩, fun i hi => (hms i (by omega)).2.2, ?_, fun x hx => ?_⟩
    · have h2 := (hms i (by omega)).2.1 0 _ rfl
      exact World.block_lt_of_cell? _ _ h2
    · have h1 := bulk_len (H := H) ((List.range n).map D)
      simp only [Rows.uptoBulk]
      simp at h1
      omega
    · rcases List.mem_append.1 hx with hx | hx
      · simp only [MemPlace.row, List.mem_map, List.mem_range] at hx
        obtain ⟨i, hi, rfl⟩ := hx
        have h2 := (hms (i / 7) (by omega)).2.1 0 _ rfl
        exact World.block_lt_of_cell? _ _ h2
      · rw [List.mem_flatMap] at hx
        obtain ⟨i, hi, hx⟩ := hx
        rw [(hms i (by simpa using hi)).1] at hx
        cases hx

end Go.Proofs.YtcfjhbcpjpgodaaDoor
namespace Go.Proofs.YtcfjhbcpjpgodaaDoor
open Go.ChangeShapes Go.WideShapes Go.ChangeAt Go.RowKit

theorem Tryd.cellsTry : Tryd.prog.cellsOf 78 = 9 := by kernel_rfl
theorem Tryd.cellsMsgs : Tryd.prog.cellsOf 76 = 1 := by kernel_rfl
theorem Tryd.cellsTexts : Tryd.prog.cellsOf 39 = 1 := by kernel_rfl

set_option maxRecDepth 100000 in
/-- A list of messages in a cell. -/
theorem msgs_cell {H : Type} {enc : TypeId × Value → H} {W : World} {fuel : Nat} {c : Value} {d : DataW H} {p : List MemPlace} (hf' : DataW.trod enc Tryd.prog W 0 (fun _ => true) true fuel 76 [c] = some (d, p)) :
    ∃ (pa : Option Addr) (n cap : Nat) (ms : Nat → MsgV), c = .slice pa n cap ∧ MsgsAt W W.heap.size pa n ms ∧ (∀ i, i < n → (ms i).s.size ≤ maxLen ∧ (ms i).v ≤ 9223372036854775807 ∧ -9223372036854775808 ≤ (ms i).v) ∧ n ≤ Rows.uptoBulk d ∧ ∀ x ∈ p, x.block < W.heap.size := by
  rcases Deep.open_slice Tryd.underlying76 hf' with ⟨hcs, hx⟩ | ⟨a, len, cap', m, k, D, Pl, hcs, _, hl, hm, hmm, hx, hel⟩
  · simp at hcs hx
    obtain ⟨rfl, rfl⟩ := hx
    exact ⟨none, 0, 0, fun _ => msg0, hcs, fun i hi => by omega, fun i hi => by omega, Nat.zero_le _, fun x hx => by cases hx⟩
  · simp only [List.cons.injEq, and_true] at hcs
    simp only [Prod.mk.injEq] at hx
    obtain ⟨rfl, rfl⟩ := hx
    simp only [if_true] at hmm
    rw [Tryd.cellsMsg] at hel ⊢
    obtain ⟨b, o, sp⟩ := a
    have hlb : len ≤ Rows.uptoBulk (DataW.slice ((List.range len).map D) ((List.range (m - len)).map fun j => D (len + j))) := by
      have h1 := bulk_len (H := H) ((List.range len).map D)
      simp only [Rows.uptoBulk]
      simp at h1
      omega
    by_cases h0 : m = 0
    · have hl0 : len = 0 := by omega
      subst h0
      subst hl0
      refine ⟨_, 0, cap', fun _ => msg0, hcs, fun i hi => by omega, fun i hi => by omega, hlb, fun x hx => ?_⟩
      simp [MemPlace.row] at hx
    · obtain rfl : sp = none := by
        obtain ⟨cs', h1, h2⟩ := hel 0 (by omega)
        obtain ⟨_, hlen, hcell⟩ := World.cells?_some h1
        have e := hcell 0 (by omega)
        match cs', hlen with
        | u :: us, _ =>
          have h3 := World.cell?_spot e
          simpa [Addr.add] using h3
      have each : ∀ i, i < m → ∃ q : MsgV, Pl i = [] ∧ W.rangeAt b (o + i * 7) q.cells.toList ∧ q.s.size ≤ maxLen ∧ q.v ≤ 9223372036854775807 ∧ -9223372036854775808 ≤ q.v := fun i hi => by
        obtain ⟨cs', h1, h2⟩ := hel i hi
        obtain ⟨_, hlen, hcell⟩ := World.cells?_some h1
        obtain ⟨hp, q, rfl, hq⟩ := msg_of_cells hlen h2
        refine ⟨q, hp, fun j u hj => ?_, hq⟩
        have hj7 : j < 7 := by have := (List.getElem?_eq_some_iff.1 hj).1; omega
        have e := hcell j (by omega)
        rw [addr_add, addr_add] at e
        rw [e, ← hj]
      haveI : Inhabited MsgV := ⟨msg0⟩
      obtain ⟨ms, hms⟩ := Deep.choose_lt each
      refine ⟨some ⟨b, o, none⟩, len, cap', ms, hcs, fun i hi => ⟨b, o, rfl, ?_, (hms i (by omega)).2.1⟩, fun i hi => (hms i (by omega)).2.2, hlb, fun x hx => ?_⟩
      · have h2 := (hms i (by omega)).2.1 0 _ rfl
        exact World.block_lt_of_cell? _ _ h2
      · rcases List.mem_append.1 hx with hx | hx
        · simp only [MemPlace.row, List.mem_map, List.mem_range] at hx
          obtain ⟨i, hi, rfl⟩ := hx
          have h2 := (hms (i / 7) (by omega)).2.1 0 _ rfl
          exact World.block_lt_of_cell? _ _ h2
        · rw [List.mem_flatMap] at hx
          obtain ⟨i, hi, hx⟩ := hx
          rw [(hms i (by simpa using hi)).1] at hx
          cases hx

set_option maxRecDepth 100000 in
/-- A list of texts in a cell. -/
theorem texts_cell {H : Type} {enc : TypeId × Value → H} {W : World} {fuel : Nat} {c : Value} {d : DataW H} {p : List MemPlace} (hf' : DataW.trod enc Tryd.prog W 0 (fun _ => true) true fuel 39 [c] = some (d, p)) :
    ∃ (pa : Option Addr) (n cap : Nat) (raw : Nat → ByteArray), c = .slice pa n cap ∧ (pa = none → n = 0 ∧ cap = 0) ∧ Lies W W.heap.size pa n (fun i => .string (raw i)) ∧ (∀ i, i < n → (raw i).size ≤ maxLen) ∧ n ≤ Rows.uptoBulk d ∧ ∀ x ∈ p, x.block < W.heap.size := by
  rcases open_strings Tryd.underlying39 Tryd.underlying9 Tryd.cellsS hf' with ⟨hcs, hx⟩ | ⟨a, len, cap', ss, hcs, _, hl, hm, hz, hx, hcell, hsz⟩
  · simp at hcs hx
    obtain ⟨rfl, rfl⟩ := hx
    exact ⟨none, 0, 0, fun _ => ByteArray.empty, hcs, fun _ => ⟨rfl, rfl⟩, fun i hi => (by cases hi), fun i hi => (by cases hi), Nat.zero_le _, fun x hx => (by cases hx)⟩
  · simp only [List.cons.injEq, and_true] at hcs
    simp only [Prod.mk.injEq] at hx
    obtain ⟨rfl, rfl⟩ := hx
    simp only [if_true] at hz
    have hlb : len ≤ Rows.uptoBulk (DataW.slice (H := H) (strs (ss.take len)) (strs (ss.drop len))) := by
      have h1 := bulk_len (H := H) (strs (ss.take len))
      have h2 : (strs (H := H) (ss.take len)).length = len := by simp [strs]; omega
      simp only [Rows.uptoBulk]
      omega
    have hc2 : ∀ i, i < ss.length → ∃ b o, a = ⟨b, o, none⟩ ∧ b < W.heap.size ∧ W.cell? ⟨b, o + i, none⟩ = some (.string (ss.getD i ByteArray.empty)) := fun i hi => by
      have e := hcell i hi
      obtain ⟨b, o, sp⟩ := a
      obtain rfl : sp = none := by
        have h3 := World.cell?_spot (hcell 0 (by omega))
        simpa [Addr.add] using h3
      rw [addr_add] at e
      exact ⟨b, o, rfl, World.block_lt_of_cell? _ _ e, e⟩
    refine ⟨some a, len, cap', fun i => ss.getD i ByteArray.empty, hcs, (fun h => by cases h), fun i hi => ?_, fun i hi => ?_, hlb, fun x hx => ?_⟩
    · obtain ⟨b, o, rfl, h1, h2⟩ := hc2 i (by omega)
      exact ⟨b, o, rfl, h1, h2⟩
    · refine hsz _ ?_
      show ss.getD i ByteArray.empty ∈ ss
      rw [List.getD_eq_getElem?_getD, List.getElem?_eq_getElem (by omega)]
      exact List.getElem_mem _
    · simp only [MemPlace.row, List.mem_map, List.mem_range] at hx
      obtain ⟨i, hi, rfl⟩ := hx
      obtain ⟨b, o, rfl, h1, h2⟩ := hc2 i hi
      exact h1

set_option maxRecDepth 100000 in
/-- One try's cells, read. -/
theorem try_of_cells {H : Type} {enc : TypeId × Value → H} {W : World} {fuel : Nat} {cs : List Value} {d : DataW H} {p : List MemPlace} (hl : cs.length = 9) (hd : Rows.uptoBulk d ≤ 1048576) (h : DataW.trod enc Tryd.prog W 0 (fun _ => true) true fuel 78 cs = some (d, p)) :
    ∃ t : TryV, cs = t.cells.toList ∧ TryOk W W.heap.size t ∧ ∀ x ∈ p, x.block < W.heap.size := by
  obtain ⟨xs, n, _, hx, _, hlen, hf⟩ := DataW.trod_struct Tryd.underlying78 h
  match cs, hl, xs, hlen with
  | [c0, c1, c2, c3, c4, c5, c6, c7, c8], _, [y0, y1, y2, y3, y4, y5, y6, y7, y8], _ =>
    have t0 := hf 0 _ rfl
    have t1 := hf 1 _ rfl
    have t2 := hf 2 _ rfl
    have t3 := hf 3 _ rfl
    have t4 := hf 4 _ rfl
    have t5 := hf 5 _ rfl
    have t6 := hf 6 _ rfl
    have t7 := hf 7 _ rfl
    have t8 := hf 8 _ rfl
    simp [Tryd.cellsInt, Tryd.cellsBool, Tryd.cellsStr, Tryd.cellsMsgs, Tryd.cellsTexts] at t0 t1 t2 t3 t4 t5 t6 t7 t8
    obtain ⟨blk, e0, rfl, _⟩ := DataW.trod_string Tryd.underlying9 t0
    obtain ⟨who, e1, rfl, _⟩ := DataW.trod_int Tryd.underlying3 t1
    obtain ⟨rnd, e2, rfl, _⟩ := DataW.trod_int Tryd.underlying3 t2
    obtain ⟨y3d, y3p⟩ := y3
    obtain ⟨y4d, y4p⟩ := y4
    obtain ⟨op, on, oc, ms, rfl, hms, hmo, hmn, hlt3⟩ := msgs_cell t3
    obtain ⟨rp, rn, rc, raw, rfl, hnil, hraw, hrs, hrn, hlt4⟩ := texts_cell t4
    obtain ⟨uns, e5, rfl⟩ := DataW.trod_bool Tryd.underlying4 t5
    obtain ⟨ht, e6, rfl, _⟩ := DataW.trod_int Tryd.underlying3 t6
    obtain ⟨pc, e7, rfl, wp⟩ := DataW.trod_int Tryd.underlying3 t7
    obtain ⟨ano, e8, rfl, _⟩ := DataW.trod_string Tryd.underlying9 t8
    simp only [List.cons.injEq, and_true] at e0 e1 e2 e5 e6 e7 e8
    subst e0 e1 e2 e5 e6 e7 e8
    have hx1 := congrArg (·.1) hx
    have hx2 := congrArg (·.2) hx
    simp only at hx1 hx2
    rw [hx1] at hd
    simp [Rows.uptoBulk, Rows.uptoBulkAll] at hd
    refine ⟨⟨blk, who, rnd, op, on, oc, ms, rp, rn, rc, raw, uns, ht, pc, ano⟩, rfl, ⟨hms, hmo, hnil, hraw, hrs, by show on ≤ 1048576; omega, by show rn ≤ 1048576; omega, by show blk.size ≤ 1048576; first | omega | (simp at hd; omega), bounds_i64 wp⟩, fun x hx => ?_⟩
    rw [hx2] at hx
    simp at hx
    rcases hx with hx | hx
    · exact hlt3 x hx
    · exact hlt4 x hx

set_option maxRecDepth 100000 in
theorem open_tries {H : Type} {enc : TypeId × Value → H} {W : World} {base : Nat} {v : Value} {d : DataW H} {p : List MemPlace} (hd : Rows.uptoBulk d ≤ 1048576) (hv : Value.okWide Tryd.prog W .any base 63 v) (h : DataW.Trod enc Tryd.prog W 0 (fun _ => true) true 63 v d p) :
    ∃ (pa : Option Addr) (n cap : Nat) (ts : Nat → TryV), v = .slice pa n cap ∧ TriesAt W W.heap.size pa n ts ∧ (∀ i, i < n → TryOk W W.heap.size (ts i)) ∧ n ≤ Rows.uptoBulk d ∧ ∀ x ∈ p, x.block < W.heap.size := by
  obtain ⟨pa, n, cap, rfl⟩ := okWide_slice Tryd.underlying63 hv
  obtain ⟨fuel, hf⟩ := h
  have hf' : DataW.trod enc Tryd.prog W 0 (fun _ => true) true fuel 63 [.slice pa n cap] = some (d, p) := hf
  rcases Deep.open_slice Tryd.underlying63 hf' with ⟨hcs, hx⟩ | ⟨a, len, cap', m, k, D, Pl, hcs, _, hl, hm, hmm, hx, hel⟩
  · simp at hcs hx
    obtain ⟨rfl, rfl, rfl⟩ := hcs
    obtain ⟨rfl, rfl⟩ := hx
    exact ⟨none, 0, 0, fun _ => try0, rfl, fun i hi => by omega, fun i hi => by omega, Nat.zero_le _, fun x hx => by cases hx⟩
  · simp only [List.cons.injEq, Value.slice.injEq, and_true] at hcs
    obtain ⟨rfl, rfl, rfl⟩ := hcs
    simp only [Prod.mk.injEq] at hx
    obtain ⟨rfl, rfl⟩ := hx
    simp only [if_true] at hmm
    obtain ⟨b, o, sp⟩ := a
    obtain rfl : sp = none := ok_spot Tryd.underlying63 hv
    rw [Tryd.cellsTry] at hel ⊢
    have hDb : ∀ i, i < m → Rows.uptoBulk (D i) ≤ 1048576 := fun i hi => by
      simp only [Rows.uptoBulk] at hd
      by_cases hin : i < n
      · have := bulk_mem (H := H) (d := D i) (l := (List.range n).map D) (List.mem_map.2 ⟨i, by simpa using hin, rfl⟩)
        omega
      · have := bulk_mem (H := H) (d := D i) (l := (List.range (m - n)).map fun j => D (n + j)) (List.mem_map.2 ⟨i - n, by simp; omega, by rw [show n + (i - n) = i by omega]⟩)
        omega
    have each : ∀ i, i < m → ∃ q : TryV, W.rangeAt b (o + i * 9) q.cells.toList ∧ TryOk W W.heap.size q ∧ ∀ x ∈ Pl i, x.block < W.heap.size := fun i hi => by
      obtain ⟨cs', h1, h2⟩ := hel i hi
      obtain ⟨_, hlen, hcell⟩ := World.cells?_some h1
      obtain ⟨q, rfl, hq, hp⟩ := try_of_cells hlen (hDb i hi) h2
      refine ⟨q, fun j u hj => ?_, hq, hp⟩
      have hj9 : j < 9 := by have := (List.getElem?_eq_some_iff.1 hj).1; omega
      have e := hcell j (by omega)
      rw [addr_add, addr_add] at e
      rw [e, ← hj]
    haveI : Inhabited TryV := ⟨try0⟩
    obtain ⟨ts, hts⟩ := Deep.choose_lt each
    refine ⟨some ⟨b, o, none⟩, n, cap, ts, rfl, fun i hi => ⟨b, o, rfl, ?_, (hts i (by omega)).1⟩, fun i hi => (hts i (by omega)).2.1, ?_, fun x hx => ?_⟩
    · have h2 := (hts i (by omega)).1 0 _ rfl
      exact World.block_lt_of_cell? _ _ h2
    · have h1 := bulk_len (H := H) ((List.range n).map D)
      simp only [Rows.uptoBulk]
      simp at h1
      omega
    · rcases List.mem_append.1 hx with hx | hx
      · simp only [MemPlace.row, List.mem_map, List.mem_range] at hx
        obtain ⟨i, hi, rfl⟩ := hx
        have h2 := (hts (i / 9) (by omega)).1 0 _ rfl
        exact World.block_lt_of_cell? _ _ h2
      · rw [List.mem_flatMap] at hx
        obtain ⟨i, hi, hx⟩ := hx
        exact (hts i (by simpa using hi)).2.2 x hx

end Go.Proofs.YtcfjhbcpjpgodaaDoor
