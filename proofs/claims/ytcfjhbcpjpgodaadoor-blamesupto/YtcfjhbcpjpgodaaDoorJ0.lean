/- Proved here: what the walks of all the functions share: lists by number, rows that are owned, blocks that turn and blocks that stay. · Proved here: a ring in memory: who has signed what; and what Signed answers. · Proved here: append of marks onto a row of the call's own: what read as the mark ahead of it reads so behind it. Nothing here speaks of a program. -/
import Derived.Test.YtcfjhbcpjpgodaaDoorRows
import Derived.Below
import Derived.WalkKit
import Derived.WalkSpells
import Derived.WalkLawsBesides
import Derived.Laws.Rows
import Derived.Laws.CopyRow
import Derived.Laws.Strings
import Derived.Laws.BytesArg
import Derived.Lib.Strings
import Derived.Deep.MidRow
import Derived.Deep.RegionHeld
import Derived.Deep.DeepCutAuto
import Derived.OwnWalk
import Derived.Maps.AppendAt
namespace Go.Proofs.YtcfjhbcpjpgodaaDoor
open Go.RowKit

theorem hide {p : Prop} (h : p) : Hid p := h

/-- Only block g may have turned. -/
structure Only (g : Nat) (w w' : World) : Prop where
  os : w'.os = w.os
  tape : w'.tape = w.tape
  output : w'.output = w.output
  size : w'.heap.size = w.heap.size
  block : ∀ k, k ≠ g → w'.heap[k]? = w.heap[k]?

theorem Only.below {g B : Nat} {w w' : World} (h : Only g w w') (hB : B ≤ g) : Below B w w' := ⟨h.os, h.tape, h.output, by rw [h.size]; exact Nat.le_refl _, fun k hk => h.block k (by omega)⟩

theorem Only.cell {g : Nat} {w w' : World} (h : Only g w w') {p : Addr} (hp : p.block ≠ g) : w'.cell? p = w.cell? p := World.cell?_of_block (w := w) (h.block p.block hp)

theorem only_setRow (w : World) (g : Nat) (cs : Array Value) : Only g w (w.setRow g cs) := ⟨rfl, rfl, rfl, by simp, fun k hk => setRow_other _ _ _ _ hk⟩

theorem only_setCell (w : World) (g i : Nat) (v : Value) : Only g w (w.setCell ⟨g, i, none⟩ v) := ⟨rfl, rfl, rfl, by simp [World.setCell], fun k hk => by simp [World.setCell, Array.getElem?_modify]; omega⟩

/-- A slice's elements by number: a row of values of one cell each, in a block below B. -/
def Lies (w : World) (B : Nat) (p : Option Addr) (n : Nat) (f : Nat → Value) : Prop := ∀ i, i < n → ∃ b o, p = some ⟨b, o, none⟩ ∧ b < B ∧ w.cell? ⟨b, o + i, none⟩ = some (f i)

theorem Lies.below {w w' : World} {B : Nat} {p : Option Addr} {n : Nat} {f : Nat → Value} (h : Lies w B p n f) (hb : Below B w w') : Lies w' B p n f := fun i hi => by
  obtain ⟨b, o, e, h1, h2⟩ := h i hi
  exact ⟨b, o, e, h1, (hb.cell (by exact h1)).trans h2⟩

theorem Lies.more {w : World} {B B' : Nat} {p : Option Addr} {n : Nat} {f : Nat → Value} (h : Lies w B p n f) (hB : B ≤ B') : Lies w B' p n f := fun i hi => by
  obtain ⟨b, o, e, h1, h2⟩ := h i hi
  exact ⟨b, o, e, by omega, h2⟩

theorem addr_add (b o j : Nat) : (⟨b, o, none⟩ : Addr).add j = ⟨b, o + j, none⟩ := by
  unfold Addr.add
  split
  · rename_i h; subst h; rfl
  · rfl

theorem own_base {base base' e size n : Nat} {v : Value} {xs : List Value} {w : World} (h : w.ownsRow base e size v n xs) (hb : base' ≤ base) : w.ownsRow base' e size v n xs := by
  refine ⟨h.1, ?_⟩
  rcases h.2 with h1 | ⟨k, cap, cur, e1, hk, hr⟩
  · exact Or.inl h1
  · exact Or.inr ⟨k, cap, cur, e1, Nat.le_trans hb hk, hr⟩

theorem own_slice {base e size n : Nat} {v : Value} {xs : List Value} {w : World} (h : w.ownsRow base e size v n xs) : ∃ p c, v = .slice p n c := by
  rcases h.2 with ⟨rfl, rfl⟩ | ⟨g, cap, cur, rfl, _⟩
  · exact ⟨none, 0, rfl⟩
  · exact ⟨_, cap, rfl⟩

theorem own_blocks {w w' : World} {base e size n : Nat} {v : Value} {xs : List Value} (h : w.ownsRow base e size v n xs) (hb : ∀ g, v.ownBlock = some g → g < w.heap.size → w'.heap[g]? = w.heap[g]?) : w'.ownsRow base e size v n xs := by
  refine ⟨h.1, ?_⟩
  rcases h.2 with h1 | ⟨k, cap, cur, rfl, hk, hg, hr⟩
  · exact Or.inl h1
  · refine Or.inr ⟨k, cap, cur, rfl, hk, ?_, hr⟩
    have hlt : k < w.heap.size := by
      rcases Nat.lt_or_ge k w.heap.size with h' | h'
      · exact h'
      · simp [Array.getElem?_eq_none h'] at hg
    rw [hb k rfl hlt]
    exact hg

/-- Rows of two types lie apart. -/
theorem own_apart {w : World} {b1 b2 e1 e2 n1 n2 : Nat} {v1 v2 : Value} {xs1 xs2 : List Value} (h1 : w.ownsRow b1 e1 1 v1 n1 xs1) (h2 : w.ownsRow b2 e2 1 v2 n2 xs2) (he : e1 ≠ e2) : ∀ g, v1.ownBlock = some g → v2.ownBlock ≠ some g := by
  intro g hg hg2
  rcases h1.2 with ⟨rfl, _⟩ | ⟨g1, _, _, rfl, _, hh1, _⟩
  · cases hg
  · rcases h2.2 with ⟨rfl, _⟩ | ⟨g2, _, _, rfl, _, hh2, _⟩
    · cases hg2
    · cases hg
      cases hg2
      rw [hh1] at hh2
      exact he (by simpa using (Obj.cells.inj (Option.some.inj hh2)).2.1)

theorem own_lies {w : World} {base : Nat} {e : TypeId} {v : Value} {l : List ByteArray} (h : w.ownsRow base e 1 v l.length (l.map .string)) :
    ∃ p cap, v = .slice p l.length cap ∧ l.length ≤ maxLen ∧ Lies w w.heap.size p l.length (fun i => .string (l.getD i ByteArray.empty)) := by
  rcases h.2 with ⟨rfl, hn⟩ | ⟨g, cap, cur, rfl, hb, hg, hnc, hcm, hcs, ht⟩
  · exact ⟨none, 0, by rw [hn], by rw [hn]; exact Nat.zero_le _, fun i hi => by omega⟩
  · refine ⟨_, cap, rfl, Nat.le_trans hnc hcm, fun i hi => ⟨g, 0, rfl, ?_, ?_⟩⟩
    · rcases Nat.lt_or_ge g w.heap.size with h' | h'
      · exact h'
      · simp [Array.getElem?_eq_none h'] at hg
    · rw [cell_of_row w g (0 + i) _ e _ hg, Nat.zero_add]
      have e1 : (cur.toList.take (l.length * 1))[i]? = (l.map Value.string)[i]? := by rw [ht]
      rw [List.getElem?_take, if_pos (by omega)] at e1
      rw [← Array.getElem?_toList, e1, List.getElem?_map]
      simp only [List.getD_eq_getElem?_getD, List.getElem?_eq_getElem hi]
      rfl

theorem ret_b {a b : Bool} (h : a = b) : Ending.returned (.bool a) = .returned (.bool b) := by rw [h]

section
variable {P : Program}
/-- An operation is taken first, the slot that it writes said outright. -/
theorem takeD {ops : Array Oper} {Q : Exit → Act → World → Prop} {md : Region.Mode} {S : World → Prop} (i : Nat) (d : Option Tmp) (v : Value) {oi : Oper} {fuel : Nat} {listed : Array Bool} {a : Act} {w : World} (hi : ops[i]? = some oi) (hd : oi.dst = d)
    (hs : Region.noSelect ops = true) (hf : Region.free md ops listed i = true) (hr : (Region.ready md ops listed).contains i = true)
    (hQ : ∀ c a w, Q (.panic c) (a.put d v) w → Q (.panic c) a w) (hy : YieldsIf P ops S oi v a) (hS : S w)
    (h : wpAnyH P md ops Q S fuel (listed.setIfInBounds i true) (a.put d v) w) : wpAnyH P md ops Q S (fuel + 1) listed a w := by
  subst hd
  exact wpAnyH_take hi hs hf hr hQ hy hS h
/-- A row is stored over a whole block. -/
theorem run_storeVar_rowG (w : World) (g : Nat) (t ty : TypeId) (C D : Array Value) (hg : w.heap[g]? = some (.cells C t (0, 0))) (hC : C.size = D.size) (h1 : ∀ v ∈ D.toList, v.oneCell' = true) (hi : (P.info? ty).map (·.size) = some D.size) :
    (storeVar ty ⟨g, 0, none⟩ (.agg D)).run P w = .ok () (w.setRow g D) := by
  have h := run_storeCells_at P g 0 t D.toList 0 C w hg (by simp [hC]) h1
  have e : (C.toList.take (0 + 0) ++ D.toList ++ C.toList.drop (0 + 0 + D.toList.length)).toArray = D := by
    rw [Nat.add_zero, List.take_zero, List.nil_append, List.drop_of_length_le (by simp [hC]), List.append_nil, Array.toArray_toList]
  rw [e] at h
  cases hq : P.info? ty with
  | none => simp [hq] at hi
  | some i =>
    have hs : i.size = D.size := by simpa [hq] using hi
    simp [storeVar, sizeOf, typeInfo, hq, Value.cells, hs, h]
theorem wpList_store_rowG {ops : Array Oper} {rest : List Oper} {op : Oper} {a : Act} {w : World} {Q : Exit → Act → World → Prop} (hgd : op.guard = none) (ty : TypeId) (p y : Operand) (ho : op.op = .store ty p y)
    (g : Nat) (D : Array Value) (hp : a.eval p = .pointer (some ⟨g, 0, none⟩)) (hy : a.eval y = .agg D) (t : TypeId) (C : Array Value) (hg : w.heap[g]? = some (.cells C t (0, 0))) (hC : C.size = D.size) (h1 : ∀ v ∈ D.toList, v.oneCell' = true) (hi : (P.info? ty).map (·.size) = some D.size)
    (h : ∀ w', w'.heap[g]? = some (.cells D t (0, 0)) → Only g w w' → wpList P ops Q rest (a.put op.dst undef) w') : wpList P ops Q (op :: rest) a w :=
  wpList_plain hgd fun _ hK => by
    unfold Oper.wp execOp
    simp only [ho, hp, hy, Instr.storeAt, Instr.sureAddr, Sem.run_bind, Sem.run_pure, Result.andThen_ok, run_storeVar_rowG w g t ty C D hg hC h1 hi]
    exact hK _ _ (h _ (setRow_heap _ _ C _ t (0, 0) hg) (only_setRow _ _ _))
end

theorem Tryd.infoString : (Tryd.prog.info? 9).map (fun i => (i.zero, i.size, i.bytes)) = some (some (.string ByteArray.empty), 1, 16) := by kernel_rfl

/-- The list's cells, and eight marks more. -/
def roomL (f : Nat → Value) (n : Nat) (m : Value) : List Value := (List.range n).map f ++ List.replicate 8 m

theorem roomL_length (f : Nat → Value) (n : Nat) (m : Value) : (roomL f n m).length = n + 8 := by simp [roomL]

theorem roomL_get (f : Nat → Value) (n : Nat) (m : Value) (i : Nat) (hi : i < n + 8) : (roomL f n m)[i]? = some (if i < n then f i else m) := by
  unfold roomL
  by_cases h : i < n
  · rw [if_pos h, List.getElem?_append_left (by simpa using h)]
    simp [h]
  · rw [if_neg h, List.getElem?_append_right (by simp; omega)]
    rw [List.getElem?_replicate, if_pos (by simp; omega)]

theorem eql_nil (t e : TypeId) (hu : Tryd.prog.underlying t = some (.slice e)) (a : Option Addr) (n c : Nat) (W : World) : (binOp .eql t (.slice a n c) (.slice none 0 0)).run Tryd.prog W = .ok (.bool a.isNone) W := Lib.run_eql_slice_nil W t e a n c 0 0 hu

theorem Tryd.infoInt : (Tryd.prog.info? 3).map (fun i => (i.zero, i.size, i.bytes)) = some (some (.int .i64 0), 1, 8) := by kernel_rfl

/-- A text's byte. -/
def byt (t : ByteArray) (i : Nat) : Int := ((t.data.toList.getD i 0).toNat : Int)

theorem byt_bd (t : ByteArray) (i : Nat) : 0 ≤ byt t i ∧ byt t i ≤ 255 := by
  unfold byt
  have := (t.data.toList.getD i 0).toNat_lt
  omega

theorem index_byt (t : ByteArray) (i : Nat) (h : i < t.size) (W : World) : (Instr.index 9 (.string t) (.int .i64 (i : Int))).run Tryd.prog W = .ok (.int .u8 (byt t i)) W := by
  rw [run_index_string _ _ _ _ _ Tryd.underlying9]
  have e : byt t i = (t[i].toNat : Int) := by
    unfold byt
    have hl : i < t.data.toList.length := by simpa using h
    rw [List.getD_eq_getElem?_getD, List.getElem?_eq_getElem hl]
    rfl
  simp [h, e]

theorem row_lt0 {w : World} {g : Nat} {o : Obj} (h : w.heap[g]? = some o) : g < w.heap.size := by
  rcases Nat.lt_or_ge g w.heap.size with h' | h'
  · exact h'
  · simp [Array.getElem?_eq_none h'] at h
/-- nil, or a pointer to elements. -/
def NilOr (p : Option Addr) (n cap : Nat) : Prop := (p = none ∧ n = 0 ∧ cap = 0) ∨ ∃ b o, p = some ⟨b, o, none⟩

end Go.Proofs.YtcfjhbcpjpgodaaDoor
namespace Go.Proofs.YtcfjhbcpjpgodaaDoor
open Go.RowKit

/-- A ring in block rb: n ids, what each of them has signed; F: the ring's blocks. -/
def RingI (F : Nat → Prop) (rb n : Nat) (sg : Nat → List ByteArray) (w : World) : Prop :=
  ∃ (ob cap : Nat) (cur : Array Value) (iv : Nat → Value),
    w.heap[rb]? = some (.cells #[.slice (some ⟨ob, 0, none⟩) n cap] 102 (0, 0)) ∧ w.heap[ob]? = some (.cells cur 39 (0, 0)) ∧ (∀ i, i < n → cur[i]? = some (iv i)) ∧
    (∀ i, i < n → w.ownsRow 0 9 1 (iv i) (sg i).length ((sg i).map .string)) ∧ (∀ i j, i < n → j < n → i ≠ j → ∀ g, (iv i).ownBlock = some g → (iv j).ownBlock ≠ some g) ∧
    F rb ∧ F ob ∧ ∀ i, i < n → ∀ g, (iv i).ownBlock = some g → F g

theorem RingI.frame {F : Nat → Prop} {rb n : Nat} {sg : Nat → List ByteArray} {w w' : World} (h : RingI F rb n sg w) (hb : ∀ k, F k → w'.heap[k]? = w.heap[k]?) : RingI F rb n sg w' := by
  obtain ⟨ob, cap, cur, iv, h1, h2, h3, h4, h5, h6, h7, h8⟩ := h
  exact ⟨ob, cap, cur, iv, (hb rb h6).trans h1, (hb ob h7).trans h2, h3, fun i hi => own_blocks (h4 i hi) (fun g e _ => hb g (h8 i hi g e)), h5, h6, h7, h8⟩

/-- Is the text in the list? -/
def hasT (l : List ByteArray) (t : ByteArray) : Bool := l.any fun s => s.data == t.data
theorem hasT_iff (l : List ByteArray) (t : ByteArray) : hasT l t = true ↔ t ∈ l := by
  unfold hasT
  rw [List.any_eq_true]
  constructor
  · rintro ⟨s, hs, he⟩
    have : s = t := ByteArray.ext (by simpa using he)
    rw [← this]
    exact hs
  · intro h
    exact ⟨t, h, by simp⟩
theorem hasT_yes {l : List ByteArray} {t : ByteArray} (h : t ∈ l) : hasT l t = true := (hasT_iff l t).2 h
theorem hasT_no {l : List ByteArray} {t : ByteArray} (h : t ∉ l) : hasT l t = false := by
  cases e : hasT l t with
  | false => rfl
  | true => exact absurd ((hasT_iff l t).1 e) h

/-- Has the id signed the text? -/
def signedB (sg : Nat → List ByteArray) (n : Nat) (id : Int) (t : ByteArray) : Bool := decide (0 ≤ id ∧ id < (n : Int)) && hasT (sg id.toNat) t

theorem signedB_out {sg : Nat → List ByteArray} {n : Nat} {id : Int} {t : ByteArray} (h : ¬ (0 ≤ id ∧ id < (n : Int))) : signedB sg n id t = false := by unfold signedB; rw [decide_eq_false h]; rfl
theorem signedB_in {sg : Nat → List ByteArray} {n i : Nat} {t : ByteArray} (h : i < n) : signedB sg n (i : Int) t = hasT (sg i) t := by unfold signedB; rw [decide_eq_true (by omega)]; simp

theorem text_ne {s t : ByteArray} (h : ¬ s = t) : (s.toList == t.toList) = false := by
  apply Bool.eq_false_iff.2
  intro e
  have e1 : s.toList = t.toList := by simpa using e
  rw [ByteArray.toList_eq, ByteArray.toList_eq] at e1
  exact h (ByteArray.ext (Array.ext' e1))

theorem mem_take_step (l : List ByteArray) (t : ByteArray) (k : Nat) (h : t ∉ l.take k) (hn : l.getD k ByteArray.empty ≠ t) : t ∉ l.take (k + 1) := by
  intro hm
  by_cases hk : k < l.length
  · rw [← List.take_append_getElem hk, List.mem_append] at hm
    rcases hm with hm | hm
    · exact h hm
    · rw [List.mem_singleton] at hm
      rw [List.getD_eq_getElem?_getD, List.getElem?_eq_getElem hk] at hn
      exact hn hm.symm
  · rw [List.take_of_length_le (by omega)] at hm h
    exact h hm

set_option maxRecDepth 100000 in
set_option maxHeartbeats 1600000 in
theorem signed_any (F : Nat → Prop) (rb n : Nat) (sg : Nat → List ByteArray) (id : Int) (t : ByteArray) (w : World) (h : RingI F rb n sg w) :
    Calls Tryd.prog 45 #[.pointer (some ⟨rb, 0, none⟩), .int .i64 id, .string t] w fun e w' => e = .returned (.bool (signedB sg n id t)) ∧ w' = w := by
  obtain ⟨ob, cap, cur, iv, h1, h2, h3, h4, -, -, -, -⟩ := h
  have hc0 : w.cell? ⟨rb, 0, none⟩ = some (.slice (some ⟨ob, 0, none⟩) n cap) := cell_of_row w rb 0 _ _ _ h1
  by_cases ho : 0 ≤ id ∧ id < (n : Int)
  · obtain ⟨i, rfl⟩ : ∃ i : Nat, id = (i : Int) := ⟨id.toNat, by omega⟩
    have hin : i < n := by omega
    obtain ⟨ip, ic, he, hm, hlies⟩ := own_lies (h4 i hin)
    have hc1 : w.cell? ⟨ob, i, none⟩ = some (.slice ip (sg i).length ic) := by rw [cell_of_row w ob i _ _ _ h2, h3 i hin, he]
    rw [signedB_in hin]
    obtain ⟨l, hl⟩ : ∃ l, l = sg i := ⟨_, rfl⟩
    rw [← hl] at hlies hc1 hm ⊢
    have HL := hide hlies
    have hb1 : ¬ (i : Int) < 0 := by omega
    have hb2 : ¬ (n : Int) ≤ (i : Int) := by omega
    have hb3 : (i : Int) < n := by omega
    have hmx : l.length ≤ 9223372036854775807 := by unfold maxLen at hm; omega
    clear h1 h2 h3 h4 he hlies ho hl hm
    go_enter Tryd.func45, Tryd.ntmps45
    go_wp2
    go_loop [7] (fun k => ∃ j : Nat, j ≤ l.length ∧ k = .int .i64 j ∧ t ∉ l.take j) (fun k => l.length - (intOf k).toNat)
    case atStart => exact ⟨0, by omega, rfl, by simp⟩
    case round =>
      obtain ⟨j, hj, rfl, hnot⟩ := hrel
      by_cases hend : j = l.length
      · have HF : Hid (hasT l t = false) := hasT_no (by rw [hend, List.take_length] at hnot; exact hnot)
        have hge : ¬ (j : Int) < l.length := by omega
        clear hend hnot
        go_wp2
        go_ret
        exact ⟨ret_b HF.out.symm, rfl⟩
      · have hlt : j < l.length := by omega
        have hlt2 : (j : Int) < l.length := by omega
        obtain ⟨b, o, rfl, -, hc2⟩ := HL.out j hlt
        obtain ⟨s, hs⟩ : ∃ s, s = l.getD j ByteArray.empty := ⟨_, rfl⟩
        have hc3 : w.cell? ⟨b, o + j, none⟩ = some (.string s) := by rw [hs]; exact hc2
        clear hc2
        by_cases hst : s = t
        · have HF : Hid (hasT l t = true) := hasT_yes (by rw [← hst, hs, List.getD_eq_getElem?_getD, List.getElem?_eq_getElem hlt]; exact List.getElem_mem hlt)
          subst hst
          clear hs hend hnot
          go_wp2
          go_ret
          exact ⟨ret_b HF.out.symm, rfl⟩
        · have HM := hide (mem_take_step l t j hnot (by rw [← hs]; exact hst))
          have q1 := text_ne hst
          clear hs hend hnot
          go_wp2
          go_round
          case rel => exact ⟨j + 1, by omega, by go_num, HM.out⟩
          case measure => simp [intOf]; omega
  · rw [signedB_out ho]
    by_cases hneg : id < 0
    · clear h1 h2 h3 h4 ho
      go_enter Tryd.func45, Tryd.ntmps45
      go_wp2
      go_ret
      exact ⟨rfl, rfl⟩
    · have hge : (n : Int) ≤ id := by omega
      clear h1 h2 h3 h4 ho
      go_enter Tryd.func45, Tryd.ntmps45
      go_wp2
      go_ret
      exact ⟨rfl, rfl⟩

end Go.Proofs.YtcfjhbcpjpgodaaDoor
namespace Go.Proofs.YtcfjhbcpjpgodaaDoor

section
variable {P : Program} (w : World)

theorem cell_lt {w : World} {b j : Nat} {M : Value} (h : w.cell? ⟨b, j, none⟩ = some M) : b < w.heap.size := by
  rcases Nat.lt_or_ge b w.heap.size with h' | h'
  · exact h'
  · simp [World.cell?, Array.getElem?_eq_none h'] at h

theorem marks_alloc {w : World} {b j : Nat} {M : Value} (o : Obj) (h : w.cell? ⟨b, j, none⟩ = some M) : (w.drew.alloc o).cell? ⟨b, j, none⟩ = some M := by
  rw [← h]
  exact World.cell?_of_block (w := w) (a := ⟨b, j, none⟩) (heap_alloc_old w.drew o b (cell_lt h))

theorem run_append_marks (base : Nat) (t ty e : TypeId) (i : TypeInfo) (z : Value) (bytes : Nat) (ht : P.underlying t = some (.slice e)) (hi : P.info? e = some i) (hz : i.zero = some z)
    (hsize : i.size = 1) (hby : i.bytes = bytes) (hzs : z.cells.size = 1)
    (v : Value) (n : Nat) (xs : List Value) (hown : w.ownsRow base e 1 v n xs)
    (a : Addr) (m c : Nat) (M : Value) (hm : 0 < m) (hnews : ∀ j u, (List.replicate m M)[j]? = some u → w.cell? (a.add j) = some u) (h1 : M.oneCell' = true)
    (h63 : n + m ≤ maxLen) (hbytes : (n + m) * bytes ≤ 140737488355328) (hbase : base ≤ w.heap.size) :
    ∃ v' w', (Builtin.append_ #[t, t] ty #[v, .slice (some a) m c]).run P w = .ok v' w' ∧ w'.ownsRow base e 1 v' (n + m) (xs ++ List.replicate m M) ∧ w.grownBy w' v.ownBlock ∧
      (v'.ownBlock = v.ownBlock ∨ v'.ownBlock = some w.heap.size) ∧ w'.ownsRow base e 1 v n xs ∧ ∀ b j, w.cell? ⟨b, j, none⟩ = some M → w'.cell? ⟨b, j, none⟩ = some M := by
  have hM : ∀ u ∈ List.replicate m M, u.oneCell' = true := fun u hu => by rw [List.eq_of_mem_replicate hu]; exact h1
  have hl : (List.replicate m M).length = m * 1 := by simp
  have hl' : (List.replicate m M).length = m * i.size := by rw [hsize]; exact hl
  obtain ⟨v', w', hr, h2, h3, _, h5⟩ := run_append_own_at (P := P) w base t ty e i z 1 bytes ht hi hz hsize hby hzs (by decide) v n xs hown a m c (List.replicate m M) hl hnews hM h63 hbytes hbase
  refine ⟨v', w', hr, h2, h3, h5, ?_⟩
  have hsmall : n + m ≤ 9223372036854775807 := by simp only [maxLen] at h63; omega
  rcases hown.2 with ⟨rfl, rfl⟩ | ⟨g, cap, cur, rfl, hbg, hg, hnc, hcm, hcs, htake⟩
  · have hr2 := run_append_nil (P := P) w t ty e i z ht hi hz a m c (List.replicate m M) hl' hnews hm (by omega) (by rw [hby]; have hb := hbytes; simp only [Nat.zero_add] at hb; omega)
    rw [hr2] at hr
    cases hr
    exact ⟨⟨hown.1, Or.inl ⟨rfl, rfl⟩⟩, fun b j hbj => marks_alloc _ hbj⟩
  · by_cases hroom : n + m ≤ cap
    · have hr2 := run_append_room (P := P) w t ty e i ht hi g n cap cur hg a m c (List.replicate m M) hl' hnews hM hroom (by rw [hsize]; simp; omega)
      rw [hr2] at hr
      cases hr
      refine ⟨⟨hown.1, Or.inr ⟨g, cap, _, rfl, hbg, setRow_heap w g cur _ e _ hg, hnc, hcm, ?_, ?_⟩⟩, ?_⟩
      · rw [hsize]
        simp only [List.size_toArray, List.length_append, List.length_take, List.length_drop, Array.length_toList, List.length_replicate]
        omega
      · rw [hsize, List.append_assoc, List.take_append_of_le_length (by simp; omega), List.take_take, Nat.min_self]
        exact htake
      intro b j hbj
      by_cases e2 : b = g
      · subst e2
        rw [cell_of_row _ _ j _ _ _ (setRow_heap w b cur _ e _ hg)]
        rw [cell_of_row w b j _ _ _ hg] at hbj
        rw [hsize, Nat.mul_one]
        have hj : j < cur.size := (Array.getElem?_eq_some_iff.1 hbj).1
        rw [← Array.getElem?_toList] at hbj
        simp only [List.getElem?_toArray]
        by_cases c1 : j < n
        · rw [List.append_assoc, List.getElem?_append_left (by simp; omega), List.getElem?_take, if_pos c1]
          exact hbj
        · by_cases c2 : j < n + m
          · rw [List.getElem?_append_left (by simp; omega), List.getElem?_append_right (by simp; omega)]
            rw [List.getElem?_replicate, if_pos (by simp; omega)]
          · rw [List.getElem?_append_right (by simp; omega), List.getElem?_drop]
            rw [← hbj]
            congr 1
            simp
            omega
      · rw [← hbj]
        exact World.cell?_of_block (w := w) (a := ⟨b, j, none⟩) (setRow_other w g b _ e2)
    · have holds : ∀ j u, xs[j]? = some u → w.cell? ((⟨g, 0, none⟩ : Addr).add j) = some u := hown.cells (g := g) rfl
      have hr2 := run_append_grow (P := P) w t ty e i z ht hi hz ⟨g, 0, none⟩ n cap xs (by rw [hsize]; exact hown.1) holds a m c (List.replicate m M) hl' hnews (by omega) (by omega) (by rw [hby]; exact growslice_fits (by omega) hbytes)
      rw [hr2] at hr
      cases hr
      exact ⟨hown.kept (row := none) ⟨rfl, rfl, rfl, by simp, fun k hk _ => heap_alloc_old w.drew _ k hk⟩ (Or.inr (by simp [Value.ownBlock])), fun b j hbj => marks_alloc _ hbj⟩

/-- At an operation, for the walk. -/
theorem wp_append_marks {o : Oper} {a : Act} {K : Act → World → Prop} {Q : Exit → Act → World → Prop} (s x : Operand) (t : TypeId)
    (ho : o.op = .call { callee := .builtin .append, args := #[s, x], argTypes := #[t, t] })
    (base : Nat) (e : TypeId) (i : TypeInfo) (z : Value) (bytes : Nat) (ht : P.underlying t = some (.slice e)) (hi : P.info? e = some i) (hz : i.zero = some z)
    (hsize : i.size = 1) (hby : i.bytes = bytes) (hzs : z.cells.size = 1)
    (v : Value) (n : Nat) (xs : List Value) (hs : a.eval s = v) (hown : w.ownsRow base e 1 v n xs)
    (ad : Addr) (m c : Nat) (M : Value) (hx : a.eval x = .slice (some ad) m c) (hm : 0 < m) (hnews : ∀ j u, (List.replicate m M)[j]? = some u → w.cell? (ad.add j) = some u) (h1 : M.oneCell' = true)
    (h63 : n + m ≤ maxLen) (hbytes : (n + m) * bytes ≤ 140737488355328) (hbase : base ≤ w.heap.size)
    (h : ∀ v' w', w'.ownsRow base e 1 v' (n + m) (xs ++ List.replicate m M) → w.grownBy w' v.ownBlock → (v'.ownBlock = v.ownBlock ∨ v'.ownBlock = some w.heap.size) → w'.ownsRow base e 1 v n xs → (∀ b j, w.cell? ⟨b, j, none⟩ = some M → w'.cell? ⟨b, j, none⟩ = some M) → K (a.put o.dst v') w') : o.wp P a w K Q := by
  obtain ⟨v', w', hr, h2, h3, h4, h5, h6⟩ := run_append_marks (P := P) w base t o.type e i z bytes ht hi hz hsize hby hzs v n xs hown ad m c M hm hnews h1 h63 hbytes hbase
  unfold Oper.wp execOp
  simp only [ho, resolve, invoke, builtin, Sem.run_bind, Sem.run_pure, Result.andThen_ok, List.map_toArray, List.map_cons, List.map_nil, hs, hx, hr]
  exact h v' w' h2 h3 h4 h5 h6

/-- Append onto a row of the call's own, and where the new one lies, at an operation. -/
theorem wp_append_at {o : Oper} {a : Act} {K : Act → World → Prop} {Q : Exit → Act → World → Prop} (s x : Operand) (t : TypeId)
    (ho : o.op = .call { callee := .builtin .append, args := #[s, x], argTypes := #[t, t] })
    (base : Nat) (e : TypeId) (i : TypeInfo) (z : Value) (size bytes : Nat) (ht : P.underlying t = some (.slice e)) (hi : P.info? e = some i) (hz : i.zero = some z)
    (hsize : i.size = size) (hby : i.bytes = bytes) (hzs : z.cells.size = size) (hsz : 0 < size)
    (v : Value) (n : Nat) (xs : List Value) (hs : a.eval s = v) (hown : w.ownsRow base e size v n xs)
    (ad : Addr) (m c : Nat) (news : List Value) (hx : a.eval x = .slice (some ad) m c) (hl : news.length = m * size) (hnews : ∀ j u, news[j]? = some u → w.cell? (ad.add j) = some u) (h1 : ∀ u ∈ news, u.oneCell' = true)
    (h63 : n + m ≤ maxLen) (hbytes : (n + m) * bytes ≤ 140737488355328) (hbase : base ≤ w.heap.size)
    (h : ∀ v' w', w'.ownsRow base e size v' (n + m) (xs ++ news) → w.grownBy w' v.ownBlock → (v'.ownBlock = v.ownBlock ∨ v'.ownBlock = some w.heap.size) → K (a.put o.dst v') w') : o.wp P a w K Q := by
  obtain ⟨v', w', hr, h2, h3, _, h5⟩ := run_append_own_at (P := P) w base t o.type e i z size bytes ht hi hz hsize hby hzs hsz v n xs hown ad m c news hl hnews h1 h63 hbytes hbase
  unfold Oper.wp execOp
  simp only [ho, resolve, invoke, builtin, Sem.run_bind, Sem.run_pure, Result.andThen_ok, List.map_toArray, List.map_cons, List.map_nil, hs, hx, hr]
  exact h v' w' h2 h3 h5
end

end Go.Proofs.YtcfjhbcpjpgodaaDoor
