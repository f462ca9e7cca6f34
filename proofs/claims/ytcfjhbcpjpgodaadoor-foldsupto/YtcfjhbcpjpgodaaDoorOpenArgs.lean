/- Proved here: a list of numbers, and a list of texts, that came in as arguments, as the walk wants them: by number, with the bounds that the second form's bulk gives. -/
import Derived.Test.YtcfjhbcpjpgodaaDoorRows
import Derived.Test.YtcfjhbcpjpgodaaDoorReady
import Derived.SliceStrings
import Derived.ChangeSlices
import Derived.WideShapes
import Derived.ProofKit
import Derived.OpenShut
namespace Go.Proofs.YtcfjhbcpjpgodaaDoor
open Go.ChangeShapes Go.WideShapes Go.ChangeAt Go.RowKit

theorem bulk_pos {H : Type} (d : DataW H) : 1 ≤ Rows.uptoBulk d := by
  cases d with
  | lit l => cases l <;> simp [Rows.uptoBulk]
  | nil => simp [Rows.uptoBulk]
  | ptr d => simp [Rows.uptoBulk]
  | slice elems spare => simp [Rows.uptoBulk]
  | agg parts => simp [Rows.uptoBulk]
  | iface t d => simp [Rows.uptoBulk]
  | map entries => simp [Rows.uptoBulk]
  | held h => simp [Rows.uptoBulk]

theorem bulk_len {H : Type} : ∀ l : List (DataW H), l.length ≤ Rows.uptoBulkAll l
  | [] => Nat.zero_le _
  | x :: l => by
    have h1 := bulk_pos x
    have h2 := bulk_len l
    simp only [Rows.uptoBulkAll, List.length_cons]
    omega

theorem bulk_mem {H : Type} {d : DataW H} : ∀ {l : List (DataW H)}, d ∈ l → Rows.uptoBulk d ≤ Rows.uptoBulkAll l
  | x :: l, h => by
    simp only [Rows.uptoBulkAll]
    rcases List.mem_cons.1 h with rfl | h
    · omega
    · have := bulk_mem h
      omega

set_option maxRecDepth 100000 in
theorem ok_spot {W : World} {base : Nat} {t e : TypeId} {a : Addr} {n cap : Nat} (hu : Tryd.prog.underlying t = some (.slice e)) (h : Value.okWide Tryd.prog W .any base t (.slice (some a) n cap)) : a.spot = none := by
  simp only [Value.okWide, hu, Cell.okWide, Cell.ok] at h
  exact h.2.2.2.1

theorem Tryd.cellsI : Tryd.prog.cellsOf 3 = 1 := by kernel_rfl

set_option maxRecDepth 100000 in
theorem open_nums {H : Type} {enc : TypeId × Value → H} {W : World} {base : Nat} {v : Value} {d : DataW H} {p : List MemPlace} (hv : Value.okWide Tryd.prog W .any base 38 v) (h : DataW.Trod enc Tryd.prog W 0 (fun _ => true) true 38 v d p) :
    ∃ (pa : Option Addr) (n cap : Nat) (g : Nat → Int), v = .slice pa n cap ∧ NilOr pa n cap ∧ Lies W W.heap.size pa n (fun i => .int .i64 (g i)) ∧ n ≤ Rows.uptoBulk d ∧ ∀ x ∈ p, x.block < W.heap.size := by
  obtain ⟨pa, n, cap, rfl⟩ := okWide_slice Tryd.underlying38 hv
  obtain ⟨fuel, hf⟩ := h
  have hf' : DataW.trod enc Tryd.prog W 0 (fun _ => true) true fuel 38 [.slice pa n cap] = some (d, p) := hf
  rcases open_ints Tryd.underlying38 Tryd.underlying3 Tryd.cellsI hf' with ⟨hcs, hx⟩ | ⟨a, len, cap', zs, hcs, _, hl, hm, hz, hx, hcell, _⟩
  · simp at hcs hx
    obtain ⟨rfl, rfl, rfl⟩ := hcs
    obtain ⟨rfl, rfl⟩ := hx
    exact ⟨none, 0, 0, fun _ => 0, rfl, Or.inl ⟨rfl, rfl, rfl⟩, fun i hi => by omega, Nat.zero_le _, fun x hx => by cases hx⟩
  · simp at hcs hx
    obtain ⟨rfl, rfl, rfl⟩ := hcs
    obtain ⟨rfl, rfl⟩ := hx
    simp only [if_true] at hz
    obtain ⟨b, o, sp⟩ := a
    obtain rfl : sp = none := ok_spot Tryd.underlying38 hv
    have hc2 : ∀ i, i < zs.length → W.cell? ⟨b, o + i, none⟩ = some (.int .i64 (zs.getD i 0)) := fun i hi => by rw [← addr_add]; exact hcell i hi
    refine ⟨_, n, cap, fun i => zs.getD i 0, rfl, Or.inr ⟨b, o, rfl⟩, fun i hi => ⟨b, o, rfl, cell_lt (hc2 i (by omega)), hc2 i (by omega)⟩, ?_, fun x hx => ?_⟩
    · have h1 := bulk_len (H := H) (lits .i64 (zs.take n))
      have h2 : (lits (H := H) .i64 (zs.take n)).length = n := by simp [lits]; omega
      simp only [Rows.uptoBulk]
      omega
    · simp only [MemPlace.row, List.mem_map, List.mem_range] at hx
      obtain ⟨i, hi, rfl⟩ := hx
      exact cell_lt (hc2 i hi)

set_option maxRecDepth 100000 in
theorem open_texts {H : Type} {enc : TypeId × Value → H} {W : World} {base : Nat} {v : Value} {d : DataW H} {p : List MemPlace} (hv : Value.okWide Tryd.prog W .any base 39 v) (h : DataW.Trod enc Tryd.prog W 0 (fun _ => true) true 39 v d p) :
    ∃ (pa : Option Addr) (l : List ByteArray) (cap : Nat), v = .slice pa l.length cap ∧ NilOr pa l.length cap ∧ Lies W W.heap.size pa l.length (fun i => .string (l.getD i ByteArray.empty)) ∧ l.length ≤ Rows.uptoBulk d ∧ (∀ i, i < l.length → (l.getD i ByteArray.empty).size ≤ Rows.uptoBulk d) ∧ ∀ x ∈ p, x.block < W.heap.size := by
  obtain ⟨pa, n, cap, rfl⟩ := okWide_slice Tryd.underlying39 hv
  obtain ⟨fuel, hf⟩ := h
  have hf' : DataW.trod enc Tryd.prog W 0 (fun _ => true) true fuel 39 [.slice pa n cap] = some (d, p) := hf
  rcases open_strings Tryd.underlying39 Tryd.underlying9 Tryd.cellsS hf' with ⟨hcs, hx⟩ | ⟨a, len, cap', ss, hcs, _, hl, hm, hz, hx, hcell, _⟩
  · simp at hcs hx
    obtain ⟨rfl, rfl, rfl⟩ := hcs
    obtain ⟨rfl, rfl⟩ := hx
    exact ⟨none, [], 0, rfl, Or.inl ⟨rfl, rfl, rfl⟩, fun i hi => (by cases hi), Nat.zero_le _, fun i hi => (by cases hi), fun x hx => (by cases hx)⟩
  · simp at hcs hx
    obtain ⟨rfl, rfl, rfl⟩ := hcs
    obtain ⟨rfl, rfl⟩ := hx
    simp only [if_true] at hz
    obtain ⟨b, o, sp⟩ := a
    obtain rfl : sp = none := ok_spot Tryd.underlying39 hv
    have hc2 : ∀ i, i < ss.length → W.cell? ⟨b, o + i, none⟩ = some (.string (ss.getD i ByteArray.empty)) := fun i hi => by rw [← addr_add]; exact hcell i hi
    have hln : (ss.take n).length = n := by simp; omega
    have hget : ∀ i, i < n → (ss.take n).getD i ByteArray.empty = ss.getD i ByteArray.empty := fun i hi => by
      rw [List.getD_eq_getElem?_getD, List.getD_eq_getElem?_getD, List.getElem?_take, if_pos hi]
    refine ⟨_, ss.take n, cap, by rw [hln], Or.inr ⟨b, o, rfl⟩, fun i hi => ⟨b, o, rfl, cell_lt (hc2 i (by omega)), ?_⟩, ?_, fun i hi => ?_, fun x hx => ?_⟩
    · rw [hc2 i (by omega)]
      show _ = some (Value.string ((ss.take n).getD i ByteArray.empty))
      rw [hget i (by omega)]
    · have h1 := bulk_len (H := H) (strs (ss.take n))
      have h2 : (strs (H := H) (ss.take n)).length = n := by simp [strs]; omega
      simp only [Rows.uptoBulk]
      omega
    · have hm2 : DataW.lit (H := H) (.string ((ss.take n).getD i ByteArray.empty).data.toList) ∈ strs (H := H) (ss.take n) := by
        unfold strs
        rw [List.mem_map]
        refine ⟨(ss.take n).getD i ByteArray.empty, ?_, rfl⟩
        rw [List.getD_eq_getElem?_getD, List.getElem?_eq_getElem hi]
        exact List.getElem_mem hi
      have h1 := bulk_mem hm2
      have h2 : ((ss.take n).getD i ByteArray.empty).data.toList.length = ((ss.take n).getD i ByteArray.empty).size := by simp
      simp only [Rows.uptoBulk] at h1 ⊢
      omega
    · simp only [MemPlace.row, List.mem_map, List.mem_range] at hx
      obtain ⟨i, hi, rfl⟩ := hx
      exact cell_lt (hc2 i hi)

end Go.Proofs.YtcfjhbcpjpgodaaDoor
