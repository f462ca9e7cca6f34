/- Proved here: a text of six bytes or more taken apart, and when it is the frame of what it says. · Proved here: what the document's own Decode answers at every text. -/
import Derived.Test.YtcfjhbcpjpgodaaDoorJ3
import Derived.Lib.Strings
import Derived.Lib.RabinKarpLaws
import Derived.WalkSpells
import Derived.Deep.QuietTactic
import Derived.BigQuiet
import Derived.BigRegion
import Derived.Deep.RegionWith
import Derived.WalkSmall
namespace Go.Proofs.YtcfjhbcpjpgodaaDoor
open Go.RowKit

/-- What a text of six bytes or more is made of, and how the walk reads it. -/
structure Parts (t : ByteArray) (k0 k1 k2 k3 k4 k5 : Int) (s : ByteArray) : Prop where
  whole : t = strOfNums [k0, k1, k2, k3, k4, k5] ++ s
  size : t.size = 6 + s.size
  at0 : ∀ W : World, (Instr.index 9 (.string t) (.int .i64 0)).run Tryd.prog W = .ok (.int .u8 k0) W
  at1 : ∀ W : World, (Instr.index 9 (.string t) (.int .i64 1)).run Tryd.prog W = .ok (.int .u8 k1) W
  at2 : ∀ W : World, (Instr.index 9 (.string t) (.int .i64 2)).run Tryd.prog W = .ok (.int .u8 k2) W
  at3 : ∀ W : World, (Instr.index 9 (.string t) (.int .i64 3)).run Tryd.prog W = .ok (.int .u8 k3) W
  at4 : ∀ W : World, (Instr.index 9 (.string t) (.int .i64 4)).run Tryd.prog W = .ok (.int .u8 k4) W
  at5 : ∀ W : World, (Instr.index 9 (.string t) (.int .i64 5)).run Tryd.prog W = .ok (.int .u8 k5) W
  rest : ∀ W : World, (Instr.slice 9 (.string t) (some (.int .i64 6)) none none).run Tryd.prog W = .ok (.string s) W
  b0 : 0 ≤ k0 ∧ k0 ≤ 255
  b1 : 0 ≤ k1 ∧ k1 ≤ 255
  b2 : 0 ≤ k2 ∧ k2 ≤ 255
  b3 : 0 ≤ k3 ∧ k3 ≤ 255
  b4 : 0 ≤ k4 ∧ k4 ≤ 255
  b5 : 0 ≤ k5 ∧ k5 ≤ 255

theorem index_at (t : ByteArray) (i : Nat) (h : i < t.size) (W : World) : (Instr.index 9 (.string t) (.int .i64 (i : Int))).run Tryd.prog W = .ok (.int .u8 (t[i].toNat : Int)) W := by
  rw [run_index_string _ _ _ _ _ Tryd.underlying9]
  simp [h]

theorem parts_at (t : ByteArray) (h : 6 ≤ t.size) : Parts t (t[0].toNat : Int) (t[1].toNat : Int) (t[2].toNat : Int) (t[3].toNat : Int) (t[4].toNat : Int) (t[5].toNat : Int) (t.extract 6 t.size) := by
  have hb : ∀ x : UInt8, 0 ≤ (x.toNat : Int) ∧ (x.toNat : Int) ≤ 255 := fun x => by have := x.toNat_lt; omega
  refine ⟨?_, ?_, index_at t 0 (by omega), index_at t 1 (by omega), index_at t 2 (by omega), index_at t 3 (by omega), index_at t 4 (by omega), index_at t 5 (by omega), ?_, hb _, hb _, hb _, hb _, hb _, hb _⟩
  · apply ByteArray.ext
    apply Array.toList_inj.1
    rw [ByteArray.data_append, Array.toList_append, Lib.extract_data, strOfNums_data]
    have hl : 6 ≤ t.data.toList.length := by rw [← Lib.size_eq]; exact h
    have e : t.data.toList = t.data.toList.take 6 ++ t.data.toList.drop 6 := (List.take_append_drop _ _).symm
    rw [List.take_of_length_le (by simp)]
    conv => lhs; rw [e]
    congr 1
    apply List.ext_getElem?
    intro i
    by_cases hi : i < 6
    · rw [List.getElem?_take_of_lt hi, byte_at t i (by omega)]
      match i, hi with
      | 0, _ | 1, _ | 2, _ | 3, _ | 4, _ | 5, _ => simp
    · rw [List.getElem?_eq_none (by simp; omega), List.getElem?_eq_none (by simp; omega)]
  · simp; omega
  · intro W
    rw [run_slice_string_from_if _ _ _ _ _ Tryd.underlying9]
    have h6 : (6 : Int) ≤ (t.size : Int) := by omega
    simp [h6]

theorem parts_of (t : ByteArray) (h : 6 ≤ t.size) : ∃ k0 k1 k2 k3 k4 k5 s, Parts t k0 k1 k2 k3 k4 k5 s := ⟨_, _, _, _, _, _, _, parts_at t h⟩

theorem byt_get (t : ByteArray) (i : Nat) (h : i < t.size) : byt t i = (t[i].toNat : Int) := by
  unfold byt
  have hl : i < t.data.toList.length := by simpa using h
  rw [List.getD_eq_getElem?_getD, List.getElem?_eq_getElem hl]
  rfl
theorem parts_byt (t : ByteArray) (h : 6 ≤ t.size) : Parts t (byt t 0) (byt t 1) (byt t 2) (byt t 3) (byt t 4) (byt t 5) (t.extract 6 t.size) := by
  rw [byt_get t 0 (by omega), byt_get t 1 (by omega), byt_get t 2 (by omega), byt_get t 3 (by omega), byt_get t 4 (by omega), byt_get t 5 (by omega)]
  exact parts_at t h

theorem ofNat_inj (a b : Int) (ha : 0 ≤ a) (ha' : a ≤ 255) (hb : 0 ≤ b) (hb' : b ≤ 255) (h : UInt8.ofNat a.toNat = UInt8.ofNat b.toNat) : a = b := by
  have h' := congrArg UInt8.toNat h
  simp only [UInt8.toNat_ofNat'] at h'
  omega

theorem frame_eq (k0 k1 k2 k3 k4 k5 M : Int) (s : ByteArray) (h0 : 0 ≤ M) (h1 : M ≤ 255) (h2 : 0 ≤ k4) (h3 : k4 ≤ 255) (h4 : 0 ≤ k5) (h5 : k5 ≤ 255) (hs : s.size ≤ 255) :
    frameOf k0 k1 k2 k3 M s = strOfNums [k0, k1, k2, k3, k4, k5] ++ s ↔ M = k4 ∧ (s.size : Int) = k5 := by
  constructor
  · intro h
    have h' := congrArg (fun x : ByteArray => x.data.toList) h
    simp only [frameOf, ByteArray.data_append, Array.toList_append, strOfNums_data, List.map_cons, List.map_nil, List.cons_append, List.nil_append, List.cons.injEq, true_and, and_true] at h'
    exact ⟨ofNat_inj _ _ h0 h1 h2 h3 h'.1, ofNat_inj _ _ (by omega) (by omega) h4 h5 h'.2⟩
  · rintro ⟨rfl, rfl⟩
    rfl

/-- The valid round and the mark for nothing that a text's fifth byte says. -/
def vOf (k0 k4 : Int) : Int := if k0 = 1 then k4 - 1 else 0
def nlOf (k0 k4 : Int) : Bool := if k0 = 1 then false else decide (k4 = 1)

/-- Is a text with these first bytes, and n behind them, a frame? -/
def decB (k0 k1 k2 k3 k4 k5 : Int) (n : Nat) : Bool := hasB k0 k1 k2 k3 (vOf k0 k4) (nlOf k0 k4) n && decide (markOf k0 (vOf k0 k4) (nlOf k0 k4) = k4) && decide ((n : Int) = k5)

/-- What it says. -/
def decM (k0 k1 k2 k3 k4 k5 : Int) (s : ByteArray) : Value :=
  if decB k0 k1 k2 k3 k4 k5 s.size = true then .agg #[.int .i64 k0, .int .i64 k1, .int .i64 k2, .int .i64 k3, .int .i64 (vOf k0 k4), .bool (nlOf k0 k4), .string s]
  else .agg #[.int .i64 0, .int .i64 0, .int .i64 0, .int .i64 0, .int .i64 0, .bool false, .string ⟨#[]⟩]

theorem mark_bound {K H R F V : Int} {nl : Bool} {n : Nat} (h : hasB K H R F V nl n = true) : 0 ≤ markOf K V nl ∧ markOf K V nl ≤ 255 := by
  have h' := of_decide_eq_true h
  unfold markOf
  split
  · omega
  · split <;> omega

/-- By the document's road: the frame made anew is the text. -/
theorem decB_frame {t : ByteArray} {k0 k1 k2 k3 k4 k5 : Int} {s : ByteArray} (hp : Parts t k0 k1 k2 k3 k4 k5 s) (h : hasB k0 k1 k2 k3 (vOf k0 k4) (nlOf k0 k4) s.size = true) :
    (encS k0 k1 k2 k3 (vOf k0 k4) (nlOf k0 k4) s = t) ↔ decB k0 k1 k2 k3 k4 k5 s.size = true := by
  have hb := mark_bound h
  have h24 : s.size ≤ 24 := (of_decide_eq_true h).2.2.2.2.2.2.1
  rw [encS_yes h, hp.whole, frame_eq _ _ _ _ _ _ _ _ hb.1 hb.2 hp.b4.1 hp.b4.2 hp.b5.1 hp.b5.2 (by omega)]
  unfold decB
  rw [h]
  simp

end Go.Proofs.YtcfjhbcpjpgodaaDoor
namespace Go.Proofs.YtcfjhbcpjpgodaaDoor
open Go.RowKit

set_option maxRecDepth 100000 in
set_option maxHeartbeats 800000 in
theorem refDecode_short (t : ByteArray) (w : World) (h : t.size < 6) :
    Calls Tryd.prog 13 #[.string t] w fun e w' => e = .returned (.tuple #[.agg #[.int .i64 0, .int .i64 0, .int .i64 0, .int .i64 0, .int .i64 0, .bool false, .string ⟨#[]⟩], .bool false]) ∧ Below w.heap.size w w' := by
  have h' : (t.size : Int) < 6 := by omega
  go_enter Tryd.func13, Tryd.ntmps13
  go_wp2
  exact bodyPost_ret (v := .tuple #[.agg #[.int .i64 0, .int .i64 0, .int .i64 0, .int .i64 0, .int .i64 0, .bool false, .string ⟨#[]⟩], .bool false]) (by simp [results, Tryd.results13, go_sem]) rfl ⟨rfl, (Below.refl _ _).alloc (Nat.le_refl _) _⟩

theorem decB_no {k0 k1 k2 k3 k4 k5 : Int} {n : Nat} (h : hasB k0 k1 k2 k3 (vOf k0 k4) (nlOf k0 k4) n = false) : decB k0 k1 k2 k3 k4 k5 n = false := by
  unfold decB
  rw [h]
  rfl

theorem dec_no {k0 k1 k2 k3 k4 k5 : Int} {s : ByteArray} (h : decB k0 k1 k2 k3 k4 k5 s.size = false) :
    Ending.returned (.tuple #[.agg #[.int .i64 0, .int .i64 0, .int .i64 0, .int .i64 0, .int .i64 0, .bool false, .string ⟨#[]⟩], .bool false]) = .returned (.tuple #[decM k0 k1 k2 k3 k4 k5 s, .bool (decB k0 k1 k2 k3 k4 k5 s.size)]) := by
  unfold decM
  rw [h, if_neg (by simp)]

theorem dec_yes {k0 k1 k2 k3 k4 k5 V : Int} {nl : Bool} {s : ByteArray} (h : decB k0 k1 k2 k3 k4 k5 s.size = true) (hv : vOf k0 k4 = V) (hn : nlOf k0 k4 = nl) :
    Ending.returned (.tuple #[.agg #[.int .i64 k0, .int .i64 k1, .int .i64 k2, .int .i64 k3, .int .i64 V, .bool nl, .string s], .bool true]) = .returned (.tuple #[decM k0 k1 k2 k3 k4 k5 s, .bool (decB k0 k1 k2 k3 k4 k5 s.size)]) := by
  unfold decM
  rw [h, if_pos rfl, hv, hn]

end Go.Proofs.YtcfjhbcpjpgodaaDoor
