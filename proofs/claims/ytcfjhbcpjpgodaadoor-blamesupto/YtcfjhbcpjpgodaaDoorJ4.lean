/- Proved here: what a frame says, as a function of its bytes; the document's Decode in its words. · Proved here: plain facts on whom the document blames. · Proved here: what the law's texts makes of a list of texts: a copy with eight marks behind it. · Proved here: the law's keptTexts says yes where a copy with marks reads as it was made. · Proved here: a copy of a list of texts with room behind it, made ready for the look that follows. · Proved here: a copy of a list of texts with room behind it, made ready for the look that follows; what kind of slice it is. · Proved here: the law's pick tells a number below n. · Proved here: what the law's same answers for two lists of numbers: true where they are alike. -/
import Derived.Test.YtcfjhbcpjpgodaaDoorJ3
import Derived.Test.YtcfjhbcpjpgodaaDoorJ0
import Derived.BigQuiet
import Derived.WalkSmall
namespace Go.Proofs.YtcfjhbcpjpgodaaDoor
open Go.RowKit

/-- A message. -/
structure MsgV where
  k : Int
  h : Int
  r : Int
  f : Int
  v : Int
  nl : Bool
  s : ByteArray

def MsgV.cells (m : MsgV) : Array Value := #[.int .i64 m.k, .int .i64 m.h, .int .i64 m.r, .int .i64 m.f, .int .i64 m.v, .bool m.nl, .string m.s]
def msg0 : MsgV := ⟨0, 0, 0, 0, 0, false, ⟨#[]⟩⟩

/-- Is it a frame? What it says. -/
def decOk (t : ByteArray) : Bool := decide (6 ≤ t.size) && decB (byt t 0) (byt t 1) (byt t 2) (byt t 3) (byt t 4) (byt t 5) (t.extract 6 t.size).size
def decV (t : ByteArray) : MsgV := if decOk t then ⟨byt t 0, byt t 1, byt t 2, byt t 3, vOf (byt t 0) (byt t 4), nlOf (byt t 0) (byt t 4), t.extract 6 t.size⟩ else msg0

theorem decV_ok {t : ByteArray} (h : decOk t = true) : 0 ≤ (decV t).h ∧ (decV t).h < 12 ∧ 0 ≤ (decV t).r ∧ (decV t).r ≤ 255 ∧ 0 ≤ (decV t).f ∧ (decV t).f < 8 ∧ (decV t).s.size ≤ 24 ∧ 1 ≤ (decV t).k ∧ (decV t).k ≤ 3 := by
  have h2 := h
  unfold decOk decB at h2
  simp only [Bool.and_eq_true] at h2
  have h3 := of_decide_eq_true h2.2.1.1
  unfold decV
  rw [if_pos h]
  simp only
  omega

theorem decV_size (t : ByteArray) : (decV t).s.size ≤ t.size := by
  unfold decV
  split
  · simp only [ByteArray.size_extract]
    omega
  · exact Nat.zero_le _

theorem refDecode_at (t : ByteArray) (w : World) (hs : t.size ≤ maxLen) :
    Calls Tryd.prog 13 #[.string t] w fun e w' => e = .returned (.tuple #[.agg (decV t).cells, .bool (decOk t)]) ∧ Below w.heap.size w w' := by
  by_cases h6 : 6 ≤ t.size
  · have h := refDecode_any t _ _ _ _ _ _ _ w hs (parts_byt t h6)
    have e1 : decOk t = decB (byt t 0) (byt t 1) (byt t 2) (byt t 3) (byt t 4) (byt t 5) (t.extract 6 t.size).size := by unfold decOk; rw [decide_eq_true h6]; rfl
    unfold decM at h
    unfold decV
    rw [e1]
    cases hd : decB (byt t 0) (byt t 1) (byt t 2) (byt t 3) (byt t 4) (byt t 5) (t.extract 6 t.size).size with
    | true =>
      rw [hd] at h
      exact h
    | false =>
      rw [hd] at h
      exact h
  · have e1 : decOk t = false := by unfold decOk; rw [decide_eq_false h6]; rfl
    unfold decV
    rw [e1]
    exact refDecode_short t w (by omega)

end Go.Proofs.YtcfjhbcpjpgodaaDoor
namespace Go.Proofs.YtcfjhbcpjpgodaaDoor
open Go.RowKit

/-- Do two frames blame an id? -/
def pairB (sg : Nat → List ByteArray) (n : Nat) (id : Nat) (a b : ByteArray) : Prop :=
  decOk a = true ∧ decOk b = true ∧ (decV a).f = id ∧ (decV b).f = id ∧ (decV a).k = 3 ∧ (decV b).k = 3 ∧ (decV a).h = (decV b).h ∧ (decV a).r = (decV b).r ∧ signedB sg n id a = true ∧ signedB sg n id b = true ∧ a ≠ b

/-- Of frames by number: do two of them blame the id, of those that come ahead of i and k? -/
def BadTo (sg : Nat → List ByteArray) (n id : Nat) (fr : Nat → ByteArray) (i k : Nat) : Prop := ∃ x y, y < x ∧ (x < i ∨ x = i ∧ y < k) ∧ pairB sg n id (fr x) (fr y)

theorem BadTo.zero {sg : Nat → List ByteArray} {n id : Nat} {fr : Nat → ByteArray} : ¬ BadTo sg n id fr 0 0 := by
  rintro ⟨x, y, h1, h2, _⟩
  omega
theorem BadTo.next {sg : Nat → List ByteArray} {n id : Nat} {fr : Nat → ByteArray} {i : Nat} : BadTo sg n id fr i i ↔ BadTo sg n id fr (i + 1) 0 := by
  constructor
  · rintro ⟨x, y, h1, h2, h3⟩
    exact ⟨x, y, h1, by omega, h3⟩
  · rintro ⟨x, y, h1, h2, h3⟩
    exact ⟨x, y, h1, by omega, h3⟩
theorem BadTo.step {sg : Nat → List ByteArray} {n id : Nat} {fr : Nat → ByteArray} {i k : Nat} (hk : k < i) : BadTo sg n id fr i (k + 1) ↔ BadTo sg n id fr i k ∨ pairB sg n id (fr i) (fr k) := by
  constructor
  · rintro ⟨x, y, h1, h2, h3⟩
    by_cases e : x = i ∧ y = k
    · obtain ⟨rfl, rfl⟩ := e
      exact Or.inr h3
    · exact Or.inl ⟨x, y, h1, by omega, h3⟩
  · rintro (⟨x, y, h1, h2, h3⟩ | h)
    · exact ⟨x, y, h1, by omega, h3⟩
    · exact ⟨i, k, hk, Or.inr ⟨rfl, by omega⟩, h⟩

/-- Do two frames blame an id? (told) -/
def pairBb (sg : Nat → List ByteArray) (n : Nat) (id : Nat) (a b : ByteArray) : Bool :=
  decOk a && decOk b && decide ((decV a).f = id ∧ (decV b).f = id ∧ (decV a).k = 3 ∧ (decV b).k = 3 ∧ (decV a).h = (decV b).h ∧ (decV a).r = (decV b).r) && signedB sg n id a && signedB sg n id b && !(a.data == b.data)
theorem pairBb_iff (sg : Nat → List ByteArray) (n : Nat) (id : Nat) (a b : ByteArray) : pairBb sg n id a b = true ↔ pairB sg n id a b := by
  unfold pairBb pairB
  simp only [Bool.and_eq_true, decide_eq_true_eq, Bool.not_eq_true', beq_eq_false_iff_ne]
  constructor
  · rintro ⟨⟨⟨⟨⟨h1, h2⟩, h3, h4, h5, h6, h7, h8⟩, h9⟩, h10⟩, h11⟩
    exact ⟨h1, h2, h3, h4, h5, h6, h7, h8, h9, h10, fun e => h11 (by rw [e])⟩
  · rintro ⟨h1, h2, h3, h4, h5, h6, h7, h8, h9, h10, h11⟩
    exact ⟨⟨⟨⟨⟨h1, h2⟩, h3, h4, h5, h6, h7, h8⟩, h9⟩, h10⟩, fun e => h11 (ByteArray.ext e)⟩
def badB (sg : Nat → List ByteArray) (n id : Nat) (fr : Nat → ByteArray) (m : Nat) : Bool := (List.range m).any fun x => (List.range x).any fun y => pairBb sg n id (fr x) (fr y)
theorem badB_iff (sg : Nat → List ByteArray) (n id : Nat) (fr : Nat → ByteArray) (m : Nat) : badB sg n id fr m = true ↔ BadTo sg n id fr m 0 := by
  unfold badB BadTo
  simp only [List.any_eq_true, List.mem_range, pairBb_iff]
  constructor
  · rintro ⟨x, hx, y, hy, h⟩
    exact ⟨x, y, hy, Or.inl hx, h⟩
  · rintro ⟨x, y, hy, hx, h⟩
    exact ⟨x, by omega, y, hy, h⟩

/-- Whom the document blames. -/
def blameL (sg : Nat → List ByteArray) (n : Nat) (fr : Nat → ByteArray) (m : Nat) (top : Nat) : List Nat := (List.range top).filter fun id => badB sg n id fr m

theorem blameL_yes {sg : Nat → List ByteArray} {n : Nat} {fr : Nat → ByteArray} {m id : Nat} (h : BadTo sg n id fr m 0) : blameL sg n fr m (id + 1) = blameL sg n fr m id ++ [id] := by
  unfold blameL
  rw [List.range_succ, List.filter_append]
  simp [(badB_iff sg n id fr m).2 h]
theorem blameL_no {sg : Nat → List ByteArray} {n : Nat} {fr : Nat → ByteArray} {m id : Nat} (h : ¬ BadTo sg n id fr m 0) : blameL sg n fr m (id + 1) = blameL sg n fr m id := by
  have e : badB sg n id fr m = false := Bool.eq_false_iff.2 fun e => h ((badB_iff sg n id fr m).1 e)
  unfold blameL
  rw [List.range_succ, List.filter_append]
  simp [e]
theorem blameL_len (sg : Nat → List ByteArray) (n : Nat) (fr : Nat → ByteArray) (m top : Nat) : (blameL sg n fr m top).length ≤ top := by
  have := List.length_filter_le (fun id => badB sg n id fr m) (List.range top)
  unfold blameL
  simpa using this

end Go.Proofs.YtcfjhbcpjpgodaaDoor
namespace Go.Proofs.YtcfjhbcpjpgodaaDoor
open Go.RowKit

set_option maxRecDepth 100000 in
theorem texts_nil (w : World) :
    Calls Tryd.prog 15 #[.slice none 0 0] w fun e w' => e = .returned (.slice none 0 0) ∧ w' = w := by
  have hnl : ∀ W : World, (binOp .eql 39 (.slice none 0 0) (.slice none 0 0)).run Tryd.prog W = .ok (.bool true) W := fun W => eql_nil _ _ Tryd.underlying39 _ _ _ W
  go_enter Tryd.func15, Tryd.ntmps15
  go_wp2
  go_ret
  exact ⟨rfl, rfl⟩

set_option maxRecDepth 100000 in
set_option maxHeartbeats 3200000 in
theorem texts_any (g : Nat → ByteArray) (b o n cap : Nat) (w : World) (hn : n ≤ 1099511627776) (hl : Lies w w.heap.size (some ⟨b, o, none⟩) n (fun i => .string (g i))) :
    Calls Tryd.prog 15 #[.slice (some ⟨b, o, none⟩) n cap] w fun e w' => (∃ gb c, e = .returned (.slice (some ⟨gb, 0, none⟩) n c) ∧ w'.ownsRow w.heap.size 9 1 (.slice (some ⟨gb, 0, none⟩) (n + 8) c) (n + 8) (roomL (fun i => .string (g i)) n (.string ⟨#[126]⟩))) ∧ Below w.heap.size w w' := by
  obtain ⟨i3, hi, hz0, hz1, hz2⟩ := info_parts Tryd.infoString
  have HN : Hid (∀ j u, ((List.range n).map fun i => Value.string (g i))[j]? = some u → w.cell? ((⟨b, o, none⟩ : Addr).add j) = some u) := fun j u hj => by
    by_cases h : j < n
    · obtain ⟨b', o', e, _, hc⟩ := hl j h
      cases e
      simp [h] at hj
      subst hj
      rw [addr_add]
      exact hc
    · rw [List.getElem?_eq_none (by simp; omega)] at hj
      cases hj
  have HO : Hid (∀ u ∈ (List.range n).map fun i => Value.string (g i), u.oneCell' = true) := fun u hu => by
    simp only [List.mem_map] at hu
    obtain ⟨i, _, rfl⟩ := hu
    rfl
  clear hl
  have hnl : ∀ W : World, (binOp .eql 39 (.slice (some ⟨b, o, none⟩) n cap) (.slice none 0 0)).run Tryd.prog W = .ok (.bool false) W := fun W => eql_nil _ _ Tryd.underlying39 _ _ _ W
  go_enter Tryd.func15, Tryd.ntmps15
  go_wp2_with (first
    | (at_builtin; refine wpList_append_own _ rfl (.const (.slice none 0 0)) (.tmp 5) 39 rfl w.heap.size 9 i3 (.string ByteArray.empty) 1 16 Tryd.underlying39 hi hz0 hz1 hz2 rfl (by decide) _ 0 [] rfl (World.ownsRow_nil _ _ _ _) ⟨b, o, none⟩ n cap ((List.range n).map fun i => .string (g i)) rfl (by simp) HN.out HO.out (by unfold maxLen; omega) (by omega) (Nat.le_refl _) ?_; intro v1 w1 hown1 hgrow1 hnil1)
    | (at_builtin; refine wpList_append_own _ rfl (.tmp 6) (.tmp 7) 39 rfl w.heap.size 9 i3 (.string ByteArray.empty) 1 16 Tryd.underlying39 hi hz0 hz1 hz2 rfl (by decide) v1 (0 + n) _ rfl (hown1.alloc _) ⟨w1.heap.size, 0, none⟩ 8 8 (List.replicate 8 (.string ⟨#[126]⟩)) rfl rfl ?c1 ?c2 (by unfold maxLen; omega) (by omega) (by have := hgrow1.size; simp; omega) ?_)
    | go_in)
  case c1 =>
    intro j u hj
    match j, hj with
    | 0, hj | 1, hj | 2, hj | 3, hj | 4, hj | 5, hj | 6, hj | 7, hj => simp at hj; subst hj; rw [addr_add, cell_of_row _ _ _ _ _ _ (heap_alloc_new w1 _)]; rfl
    | j + 8, hj => simp at hj
  case c2 =>
    intro u hu
    have := List.eq_of_mem_replicate hu
    subst this
    rfl
  intro v2 w2 hown2 hgrow2 _
  have HB : Hid (Below w.heap.size w w2) := (((Below.refl _ w).grown hgrow1 (Nat.le_refl _) (fun k hk => by cases hk)).alloc hgrow1.size _).grown hgrow2 (by have := hgrow1.size; simp; omega) (fun k hk => (hown1.lt k hk).1)
  have HO2 : Hid (w2.ownsRow w.heap.size 9 1 v2 (n + 8) (roomL (fun i => .string (g i)) n (.string ⟨#[126]⟩))) := hown2
  rcases hown2.2 with ⟨_, h0⟩ | ⟨gb, c, cur, rfl, _, _, hnc, hcm, _, _⟩
  · omega
  · have hc1 : (n : Int) ≤ c := by omega
    have hc2 : n ≤ c := by omega
    clear hown1 hgrow1 hgrow2 hown2 hnil1 hnl
    go_wp2
    go_ret
    exact ⟨⟨gb, c, rfl, HO2.out⟩, HB.out⟩

end Go.Proofs.YtcfjhbcpjpgodaaDoor
namespace Go.Proofs.YtcfjhbcpjpgodaaDoor
open Go.RowKit

set_option maxRecDepth 100000 in
theorem keptTexts_nil (w : World) :
    Calls Tryd.prog 21 #[.slice none 0 0, .slice none 0 0] w fun e w' => e = .returned (.bool true) ∧ w' = w := by
  have hnl : ∀ W : World, (binOp .eql 39 (.slice none 0 0) (.slice none 0 0)).run Tryd.prog W = .ok (.bool true) W := fun W => eql_nil _ _ Tryd.underlying39 _ _ _ W
  go_enter Tryd.func21, Tryd.ntmps21
  go_wp2
  go_ret
  exact ⟨rfl, rfl⟩

set_option maxRecDepth 100000 in
set_option maxHeartbeats 3200000 in
theorem keptTexts_any (g : Nat → ByteArray) (b o n cap gb c : Nat) (w : World) (hn : n ≤ 1099511627776) (hc : n + 8 ≤ c) (hl : Lies w w.heap.size (some ⟨b, o, none⟩) n (fun i => .string (g i)))
    (hr : ∀ i, i < n + 8 → w.cell? ⟨gb, i, none⟩ = some (if i < n then .string (g i) else .string ⟨#[126]⟩)) :
    Calls Tryd.prog 21 #[.slice (some ⟨gb, 0, none⟩) n c, .slice (some ⟨b, o, none⟩) n cap] w fun e w' => e = .returned (.bool true) ∧ w' = w := by
  have hnl : ∀ W : World, (binOp .eql 39 (.slice (some ⟨b, o, none⟩) n cap) (.slice none 0 0)).run Tryd.prog W = .ok (.bool false) W := fun W => eql_nil _ _ Tryd.underlying39 _ _ _ W
  have HL := hide hl
  have HR := hide hr
  clear hl hr
  go_enter Tryd.func21, Tryd.ntmps21
  go_wp2
  clear hnl
  go_loop [6, 7] (fun i _ => ∃ k : Nat, k ≤ n + 8 ∧ i = .int .i64 k) (fun i _ => n + 8 - (intOf i).toNat)
  case atStart => exact ⟨0, by omega, rfl⟩
  case round =>
    obtain ⟨k, hk, rfl⟩ := hrel
    by_cases hkn : k = n + 8
    · have hk1 : ¬ (k : Int) < n + 8 := by omega
      have hk2 : ¬ k < n + 8 := by omega
      clear hkn
      go_wp2
      go_ret
      exact ⟨rfl, rfl⟩
    · have hlt : k < n + 8 := by omega
      have hk1 : (k : Int) < n + 8 := by omega
      have hr1 := HR.out k hlt
      by_cases hin : k < n
      · have hin2 : (k : Int) < n := by omega
        rw [if_pos hin] at hr1
        obtain ⟨b', o', e, _, hc1⟩ := HL.out k hin
        cases e
        clear hkn
        go_wp2
        go_round
        case rel => exact ⟨k + 1, by omega, by go_num⟩
        case measure => simp [intOf]; omega
      · have hin2 : ¬ (k : Int) < n := by omega
        rw [if_neg hin] at hr1
        clear hkn
        go_wp2
        go_round
        case rel => exact ⟨k + 1, by omega, by go_num⟩
        case measure => simp [intOf]; omega

end Go.Proofs.YtcfjhbcpjpgodaaDoor
namespace Go.Proofs.YtcfjhbcpjpgodaaDoor
open Go.RowKit

theorem own_room {w : World} {base e n gb c : Nat} {f : Nat → Value} {m : Value} (h : w.ownsRow base e 1 (.slice (some ⟨gb, 0, none⟩) (n + 8) c) (n + 8) (roomL f n m)) :
    n + 8 ≤ c ∧ gb < w.heap.size ∧ ∀ i, i < n + 8 → w.cell? ⟨gb, i, none⟩ = some (if i < n then f i else m) := by
  rcases h.2 with ⟨e0, _⟩ | ⟨g, cap, cur, e0, hb, hg, hnc, hcm, hcs, ht⟩
  · cases e0
  · cases e0
    refine ⟨hnc, row_lt0 hg, fun i hi => ?_⟩
    rw [cell_of_row w gb i _ _ _ hg]
    have e1 : (cur.toList.take ((n + 8) * 1))[i]? = (roomL f n m)[i]? := by rw [ht]
    rw [List.getElem?_take, if_pos (by omega), roomL_get _ _ _ _ hi] at e1
    rw [← Array.getElem?_toList, e1]

theorem texts_ready (g : Nat → ByteArray) (p : Option Addr) (n cap : Nat) (w : World) (hn : n ≤ 1099511627776) (hp : NilOr p n cap) (hl : Lies w w.heap.size p n (fun i => .string (g i))) :
    Calls Tryd.prog 15 #[.slice p n cap] w fun e w' => (∃ gp gc, e = .returned (.slice gp n gc) ∧ Lies w' w'.heap.size gp n (fun i => .string (g i)) ∧
      ∀ W' : World, Below w'.heap.size w' W' → Calls Tryd.prog 21 #[.slice gp n gc, .slice p n cap] W' fun e w3 => e = .returned (.bool true) ∧ w3 = W') ∧ Below w.heap.size w w' := by
  rcases hp with ⟨rfl, rfl, rfl⟩ | ⟨b, o, rfl⟩
  · refine (texts_nil w).mono ?_
    rintro e w' ⟨rfl, rfl⟩
    exact ⟨⟨none, 0, rfl, fun i hi => by omega, fun W' _ => keptTexts_nil W'⟩, Below.refl _ _⟩
  · refine (texts_any g b o n cap w hn hl).mono ?_
    rintro e w' ⟨⟨gb, c, rfl, ho⟩, hb⟩
    obtain ⟨hc, hgl, hcell⟩ := own_room ho
    refine ⟨⟨some ⟨gb, 0, none⟩, c, rfl, fun i hi => ⟨gb, 0, rfl, hgl, ?_⟩, fun W' hW => ?_⟩, hb⟩
    · rw [Nat.zero_add, hcell i (by omega), if_pos hi]
    · exact keptTexts_any g b o n cap gb c W' hn hc ((hl.below (hb.trans (hW.mono hb.size))).more (Nat.le_trans hb.size hW.size)) (fun i hi => by
        rw [hW.cell (p := ⟨gb, i, none⟩) (by exact hgl), hcell i hi])

end Go.Proofs.YtcfjhbcpjpgodaaDoor
namespace Go.Proofs.YtcfjhbcpjpgodaaDoor
open Go.RowKit

theorem texts_readyN (g : Nat → ByteArray) (p : Option Addr) (n cap : Nat) (w : World) (hn : n ≤ 1099511627776) (hp : NilOr p n cap) (hl : Lies w w.heap.size p n (fun i => .string (g i))) :
    Calls Tryd.prog 15 #[.slice p n cap] w fun e w' => (∃ gp gc, e = .returned (.slice gp n gc) ∧ NilOr gp n gc ∧ Lies w' w'.heap.size gp n (fun i => .string (g i)) ∧
      ∀ W' : World, Below w'.heap.size w' W' → Calls Tryd.prog 21 #[.slice gp n gc, .slice p n cap] W' fun e w3 => e = .returned (.bool true) ∧ w3 = W') ∧ Below w.heap.size w w' := by
  rcases hp with ⟨rfl, rfl, rfl⟩ | ⟨b, o, rfl⟩
  · refine (texts_nil w).mono ?_
    rintro e w' ⟨rfl, rfl⟩
    exact ⟨⟨none, 0, rfl, Or.inl ⟨rfl, rfl, rfl⟩, fun i hi => by omega, fun W' _ => keptTexts_nil W'⟩, Below.refl _ _⟩
  · refine (texts_any g b o n cap w hn hl).mono ?_
    rintro e w' ⟨⟨gb, c, rfl, ho⟩, hb⟩
    obtain ⟨hc, hgl, hcell⟩ := own_room ho
    refine ⟨⟨some ⟨gb, 0, none⟩, c, rfl, Or.inr ⟨gb, 0, rfl⟩, fun i hi => ⟨gb, 0, rfl, hgl, ?_⟩, fun W' hW => ?_⟩, hb⟩
    · rw [Nat.zero_add, hcell i (by omega), if_pos hi]
    · exact keptTexts_any g b o n cap gb c W' hn hc ((hl.below (hb.trans (hW.mono hb.size))).more (Nat.le_trans hb.size hW.size)) (fun i hi => by
        rw [hW.cell (p := ⟨gb, i, none⟩) (by exact hgl), hcell i hi])

end Go.Proofs.YtcfjhbcpjpgodaaDoor
namespace Go.Proofs.YtcfjhbcpjpgodaaDoor
open Go.RowKit

theorem pick_any (c : Int) (n : Nat) (w : World) (h1 : -9223372036854775808 ≤ c) (h2 : c ≤ 9223372036854775807) (hn : 1 ≤ n) (hn2 : n ≤ 1000000000) :
    Calls Tryd.prog 29 #[.int .i64 c, .int .i64 (n : Int)] w fun e w' => (∃ r : Nat, r < n ∧ e = .returned (.int .i64 (r : Int))) ∧ w' = w := by
  have hz : ((n : Int) == 0) = false := by simp; omega
  have hz2 : ¬ (n : Int) = 0 := by omega
  by_cases hc : c < 0
  · obtain ⟨d, hd⟩ : ∃ d : Int, d = -(c + 1) := ⟨_, rfl⟩
    have hd0 : 0 ≤ d := by omega
    have hd1 : d ≤ 9223372036854775807 := by omega
    obtain ⟨r, hr⟩ : ∃ r : Nat, (r : Int) = d.tmod n := ⟨(d.tmod n).toNat, by rw [Int.toNat_of_nonneg (Int.tmod_nonneg _ hd0)]⟩
    have hrn : r < n := by have := Int.tmod_lt_of_pos d (show (0 : Int) < n by omega); omega
    have HR := hide hr
    have HD := hide hd
    have HN := hide hrn
    clear hr hrn
    go_enter Tryd.func29, Tryd.ntmps29
    go_wp2
    go_ret
    refine ⟨⟨r, HN.out, ?_⟩, rfl⟩
    show Ending.returned (Value.int .i64 (-(c + 1).tmod (n : Int))) = _
    rw [HR.out, HD.out, Int.neg_tmod]

  · obtain ⟨r, hr⟩ : ∃ r : Nat, (r : Int) = c.tmod n := ⟨(c.tmod n).toNat, by rw [Int.toNat_of_nonneg (Int.tmod_nonneg _ (by omega))]⟩
    have hrn : r < n := by have := Int.tmod_lt_of_pos c (show (0 : Int) < n by omega); omega
    have HR := hide hr
    have HN := hide hrn
    clear hr hrn
    go_enter Tryd.func29, Tryd.ntmps29
    go_wp2
    go_ret
    refine ⟨⟨r, HN.out, ?_⟩, rfl⟩
    show Ending.returned (Value.int .i64 (c % (n : Int))) = _
    rw [HR.out, Int.tmod_eq_emod_of_nonneg (by omega)]

end Go.Proofs.YtcfjhbcpjpgodaaDoor
namespace Go.Proofs.YtcfjhbcpjpgodaaDoor
open Go.RowKit

set_option maxRecDepth 100000 in
set_option maxHeartbeats 3200000 in
theorem same_any (a b : Nat → Int) (p q : Option Addr) (n m cap cap' : Nat) (w : World) (hn : n ≤ maxLen) (ha : Lies w w.heap.size p n (fun i => .int .i64 (a i))) (hb : Lies w w.heap.size q m (fun i => .int .i64 (b i))) :
    Calls Tryd.prog 24 #[.slice p n cap, .slice q m cap'] w fun e w' => (∃ o, e = .returned (.bool o) ∧ (n = m → (∀ i, i < n → a i = b i) → o = true)) ∧ Below w.heap.size w w' := by
  have HA := hide ha
  have HB := hide hb
  have hmx : n ≤ 9223372036854775807 := by unfold maxLen at hn; omega
  clear ha hb hn
  by_cases hnm : n = m
  · subst hnm
    go_enter Tryd.func24, Tryd.ntmps24
    go_wp2
    go_loopw [5] (fun i wr => ∃ k : Nat, k ≤ n ∧ i = .int .i64 k ∧ Below w.heap.size w wr) (fun i _ => n - (intOf i).toNat)
    case atStart => exact ⟨0, Nat.zero_le _, rfl, Below.refl _ _⟩
    case round =>
      obtain ⟨k, hk, rfl, hbw⟩ := hrel
      have HBW := hide hbw
      clear hbw
      by_cases hkn : k = n
      · subst hkn
        go_wp2
        go_ret
        exact ⟨⟨true, rfl, fun _ _ => rfl⟩, HBW.out⟩
      · have hlt : k < n := by omega
        have hlt2 : (k : Int) < n := by omega
        obtain ⟨b1, o1, rfl, hb1, hc1⟩ := HA.out k hlt
        obtain ⟨b2, o2, rfl, hb2, hc2⟩ := HB.out k hlt
        have hr1 : wr.cell? ⟨b1, o1 + k, none⟩ = some (.int .i64 (a k)) := (HBW.out.cell (p := ⟨b1, o1 + k, none⟩) (by exact hb1)).trans hc1
        have hr2 : wr.cell? ⟨b2, o2 + k, none⟩ = some (.int .i64 (b k)) := (HBW.out.cell (p := ⟨b2, o2 + k, none⟩) (by exact hb2)).trans hc2
        clear hc1 hc2 hkn
        by_cases he : a k = b k
        · have heb : (a k == b k) = true := by simpa using he
          clear he
          go_wp2_with fail
          go_quiet (fail)
          all_goals go_wp2
          go_roundw
          case rel => exact ⟨k + 1, by omega, by go_num, below_drewN HBW.out _⟩
          case measure => simp [intOf]; omega
        · have heb : (a k == b k) = false := by simpa using he
          have HN := hide he
          clear he
          go_wp2_with fail
          go_quiet (fail)
          all_goals go_wp2
          go_ret
          exact ⟨⟨false, rfl, fun _ h => absurd (h k hlt) HN.out⟩, below_drewN HBW.out _⟩
  · have hne : ¬ ((n : Int) = m) := by omega
    have HN := hide hnm
    clear hnm
    go_enter Tryd.func24, Tryd.ntmps24
    go_wp2
    go_ret
    exact ⟨⟨false, rfl, fun h => absurd h HN.out⟩, Below.refl _ _⟩

end Go.Proofs.YtcfjhbcpjpgodaaDoor
