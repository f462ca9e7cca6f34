/- Proved here: plain facts on a registry as it is told: its powers, its names, its roles. -/
import Derived.Test.YtcfjhbcpjpgodaaGreatDoorJ9
import Derived.Test.YtcfjhbcpjpgodaaGreatDoorJ8
import Derived.Laws.BytesArg
namespace Go.Proofs.YtcfjhbcpjpgodaaGreatDoor
open Go.RowKit

def powL (x : Nat → Int) (k : Nat) : List Value := (List.range k).map fun j => .int .i64 (x j)
theorem powL_length (x : Nat → Int) (k : Nat) : (powL x k).length = k := by simp [powL]

def memb (x : Nat → Int) (k : Nat) : List Nat := (List.range k).filter fun j => decide (0 < x (8 + j))
theorem memb_yes (x : Nat → Int) (k : Nat) (h : 0 < x (8 + k)) : memb x (k + 1) = memb x k ++ [k] := by simp [memb, List.range_succ, h]
theorem memb_no (x : Nat → Int) (k : Nat) (h : ¬ 0 < x (8 + k)) : memb x (k + 1) = memb x k := by simp [memb, List.range_succ, h]
theorem memb_length (x : Nat → Int) (k : Nat) : (memb x k).length ≤ k := by
 have := List.length_filter_le (fun j => decide (0 < x (8 + j))) (List.range k)
 simpa [memb] using this
def nameB (l : List Nat) : ByteArray := strOfNums (l.map fun (j : Nat) => (j : Int) + 97)
def roleL (x : Nat → Int) (l : List Nat) : List Value := l.map fun j => .int .i64 (x (8 + j))

theorem roleL_append (x : Nat → Int) (l : List Nat) (k : Nat) : roleL x (l ++ [k]) = roleL x l ++ [.int .i64 (x (8 + k))] := by simp [roleL]

def ToldAt (w : World) (g : Nat) (p : Value) (s : ByteArray) (r : Value) : Prop := w.heap[g]? = some (.cells #[p, .string s, r] 72 (0, 0))

theorem ToldAt.cell {w : World} {g : Nat} {p : Value} {s : ByteArray} {r : Value} (h : ToldAt w g p s r) : w.cell? ⟨g, 0, none⟩ = some p ∧ w.cell? ⟨g, 1, none⟩ = some (.string s) ∧ w.cell? ⟨g, 2, none⟩ = some r :=
 ⟨cell_of_row w g 0 _ _ _ h, cell_of_row w g 1 _ _ _ h, cell_of_row w g 2 _ _ _ h⟩
theorem ToldAt.frozen {w : World} {g : Nat} {p : Value} {s : ByteArray} {r : Value} (h : ToldAt w g p s r) (i : Nat) : w.frozen? ⟨g, i, none⟩ = false := by
 unfold ToldAt at h
 simp [World.frozen?, h]
theorem ToldAt.lt {w : World} {g : Nat} {p : Value} {s : ByteArray} {r : Value} (h : ToldAt w g p s r) : g < w.heap.size := by
 rcases Nat.lt_or_ge g w.heap.size with h' | h'
 · exact h'
 · unfold ToldAt at h
   simp [Array.getElem?_eq_none h'] at h
theorem ToldAt.set1 {w : World} {g : Nat} {p : Value} {s : ByteArray} {r : Value} (h : ToldAt w g p s r) (v : ByteArray) : ToldAt (w.setCell ⟨g, 1, none⟩ (.string v)) g p v r := by
 unfold ToldAt at h ⊢
 simp [World.setCell, Array.getElem?_modify, h]
theorem ToldAt.set2 {w : World} {g : Nat} {p : Value} {s : ByteArray} {r : Value} (h : ToldAt w g p s r) (v : Value) : ToldAt (w.setCell ⟨g, 2, none⟩ v) g p s v := by
 unfold ToldAt at h ⊢
 simp [World.setCell, Array.getElem?_modify, h]
theorem ToldAt.block {w w' : World} {g : Nat} {p : Value} {s : ByteArray} {r : Value} (h : ToldAt w g p s r) (hb : w'.heap[g]? = w.heap[g]?) : ToldAt w' g p s r := by
 unfold ToldAt at h ⊢
 rw [hb]
 exact h

structure But (B g : Nat) (w w' : World) : Prop where
 os : w'.os = w.os
 tape : w'.tape = w.tape
 output : w'.output = w.output
 size : w.heap.size ≤ w'.heap.size
 block : ∀ k, k < B → k ≠ g → w'.heap[k]? = w.heap[k]?

theorem But.refl (B g : Nat) (w : World) : But B g w w := ⟨rfl, rfl, rfl, Nat.le_refl _, fun _ _ _ => rfl⟩
theorem But.trans {B g : Nat} {a b c : World} (h : But B g a b) (k : But B g b c) : But B g a c :=
 ⟨k.os.trans h.os, k.tape.trans h.tape, k.output.trans h.output, Nat.le_trans h.size k.size, fun i hi hg => (k.block i hi hg).trans (h.block i hi hg)⟩
theorem But.of_below {B g : Nat} {w w' : World} (h : Below B w w') : But B g w w' := ⟨h.os, h.tape, h.output, h.size, fun k hk _ => h.block k hk⟩
theorem But.of_only {B g : Nat} {w w' : World} (h : Only g w w') : But B g w w' := ⟨h.os, h.tape, h.output, by rw [h.size]; exact Nat.le_refl _, fun k _ hg => h.block k hg⟩
theorem But.below {B B' g : Nat} {w w' : World} (h : But B g w w') (hg : B' ≤ g) (hB : B' ≤ B) : Below B' w w' := ⟨h.os, h.tape, h.output, h.size, fun k hk => h.block k (by omega) (by omega)⟩
section
variable {P : Program}
end

theorem Tryz.sizeTold : (Tryz.prog.info? 72).map (·.size) = some 3 := by kernel_rfl

theorem powL_get (x : Nat → Int) (n i : Nat) (h : i < n) : (powL x n).toArray[i]? = some (.int .i64 (x i)) := by simp [powL, h]
theorem powL_range {w : World} {g : Nat} {t : TypeId} {x : Nat → Int} (h : RegAt w g t x) : w.rangeAt g 0 (powL x 8) := fun j v hv => by
 have hj : j < 8 := by have := (List.getElem?_eq_some_iff.1 hv).1; simpa [powL] using this
 rw [Nat.zero_add, h.cell j (by omega)]
 have : (powL x 8)[j]? = some (.int .i64 (x j)) := by simp [powL, hj]
 rw [this] at hv
 exact hv

set_option maxRecDepth 100000 in
theorem index_pow (C : Array Value) (k : Nat) (v : Int) (hk : k < 8) (hg : C[k]? = some (.int .i64 v)) (W : World) : (Instr.index 46 (.agg C) (.int .i64 (k : Int))).run Tryz.prog W = .ok (.int .i64 v) W := by
 have h : 0 ≤ (k : Int) ∧ (k : Int) < ((8 : Nat) : Int) := by omega
 simp [Instr.index, run_underlying Tryz.underlying46, asIntOf, go_sem, Tryz.sizeOf3, Tryz.isAgg3, hg, hk]

set_option maxRecDepth 100000 in
set_option maxHeartbeats 400000 in
theorem total_any (x : Nat → Int) (w : World) (hx : ∀ i, i < 8 → 0 ≤ x i ∧ x i ≤ 9) :
 Calls Tryz.prog 103 #[.agg (regA x)] w fun e w' => e = .returned (.int .i64 (sumTo x 8)) ∧ Below w.heap.size w w' := by
 have HX := hide hx
 clear hx
 have HR := hide (RegAt.alloc w 116 x)
 go_enter Tryz.func103, Tryz.ntmps103
 go_wp2_with (refine wpList_load_mid rfl 46 _ rfl w.heap.size 0 rfl (powL x 8) _ (powL_range HR.out) Tryz.underlying46 rfl (by rw [powL_length]; exact Tryz.sizePowers) ?_)
 go_loop [3, 5, 8] (fun n _ i => ∃ k : Nat, k ≤ 8 ∧ i = .int .i64 k ∧ n = .int .i64 (sumTo x k)) (fun _ _ i => 8 - (intOf i).toNat)
 case atStart => exact ⟨0, by omega, rfl, rfl⟩
 case round =>
  obtain ⟨k, hk, rfl, rfl⟩ := hrel
  by_cases hlt : k < 8
  · have hg := index_pow (powL x 8).toArray k (x k) hlt (powL_get x 8 k hlt)
    have hb := sumTo_bound x k (fun i hi => HX.out i (by omega))
    have hxk := HX.out k hlt
    have hk2 : (k : Int) < 8 := by omega
    go_wp2
    go_round
    case rel => exact ⟨k + 1, by omega, by go_num, rfl⟩
    case measure => simp [intOf]; omega
  · obtain rfl : k = 8 := by omega
    go_wp2
    go_ret
    exact ⟨rfl, (Below.refl _ _).alloc (Nat.le_refl _) _⟩

theorem place_any (c a b : Int) (w : World) (ha : 0 ≤ a) (hb : b ≤ 255) :
 Calls Tryz.prog 181 #[.int .u8 c, .int .u8 a, .int .u8 b] w fun e w' => e = .returned (.tuple #[.int .i64 (if a ≤ c ∧ c ≤ b then c - a else 0), .bool (decide (a ≤ c ∧ c ≤ b))]) ∧ w' = w := by
 by_cases h2 : c < a
 · rw [if_neg (by omega), decide_eq_false (by omega)]
   go_enter Tryz.func181, Tryz.ntmps181
   go_wp2
   go_ret2
   exact ⟨rfl, rfl⟩
 · by_cases h3 : b < c
   · rw [if_neg (by omega), decide_eq_false (by omega)]
     go_enter Tryz.func181, Tryz.ntmps181
     go_wp2
     go_ret2
     exact ⟨rfl, rfl⟩
   · rw [if_pos (by omega), decide_eq_true (by omega)]
     go_enter Tryz.func181, Tryz.ntmps181
     go_wp2
     go_ret2
     exact ⟨rfl, rfl⟩

end Go.Proofs.YtcfjhbcpjpgodaaGreatDoor
