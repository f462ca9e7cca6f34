/- Proved here: laws for a map of messages by their places: how two places and two messages compare; what a look-up finds; what a store leaves. -/
import Derived.Test.YtcfjhbcpjpgodaaDoorBlamePure
import Derived.Test.YtcfjhbcpjpgodaaDoorRowsG
import Derived.ChangeKeysEq
import Derived.MapKept
namespace Go.Proofs.YtcfjhbcpjpgodaaDoor
open Go.RowKit

/-- A message's place as a key. -/
def placeV (m : MsgV) : Value := .agg #[.int .i64 m.h, .int .i64 m.r, .int .i64 m.f]
def samePl (a b : MsgV) : Bool := a.h == b.h && (a.r == b.r && a.f == b.f)
def msgB (a b : MsgV) : Bool := a.k == b.k && (a.h == b.h && (a.r == b.r && (a.f == b.f && (a.v == b.v && (a.nl == b.nl && a.s.toList == b.s.toList)))))

theorem toList_eq_iff (s t : ByteArray) : s.toList = t.toList ↔ s = t := by
  constructor
  · intro h
    rw [ByteArray.toList_eq, ByteArray.toList_eq] at h
    exact ByteArray.ext (Array.ext' h)
  · rintro rfl; rfl
theorem samePl_iff (a b : MsgV) : samePl a b = true ↔ OfPlace b a.h a.r a.f := by
  unfold samePl OfPlace
  simp only [Bool.and_eq_true, beq_iff_eq]
  constructor
  · rintro ⟨h1, h2, h3⟩; exact ⟨h1.symm, h2.symm, h3.symm⟩
  · rintro ⟨h1, h2, h3⟩; exact ⟨h1.symm, h2.symm, h3.symm⟩
theorem msgB_iff (a b : MsgV) : msgB a b = true ↔ a = b := by
  unfold msgB
  simp only [Bool.and_eq_true, beq_iff_eq, toList_eq_iff]
  constructor
  · rintro ⟨h1, h2, h3, h4, h5, h6, h7⟩; exact msgV_ext h1 h2 h3 h4 h5 h6 h7
  · rintro rfl; exact ⟨rfl, rfl, rfl, rfl, rfl, rfl, rfl⟩

theorem Tryd.checkPlace (b : Bool) (h r f : Int) (w : World) : (Instr.checkKey b 10000 141 (.agg #[.int .i64 h, .int .i64 r, .int .i64 f])).run Tryd.prog w = .ok () w := by kernel_rfl

theorem Tryd.eqPlace (a b : MsgV) (w : World) : (Op.equal 141 (placeV a) (placeV b)).run Tryd.prog w = .ok (samePl a b) w := by
  unfold Op.equal Op.maxDepth placeV samePl
  go_simp
  repeat' split
  all_goals simp_all

theorem Tryd.neqMsg (a b : MsgV) (w : World) : (binOp .neq 28 (.agg a.cells) (.agg b.cells)).run Tryd.prog w = .ok (.bool (!msgB a b)) w := by
  unfold MsgV.cells msgB
  go_simp
  repeat' split
  all_goals simp_all

/-- The look-up goes through the entries in their order. -/
theorem findPlace (x : MsgV) (w : World) : ∀ (es : List MapEntry) (l : List MsgV) (i : Nat), es.map (fun e => (e.key, e.val)) = l.map (fun m => (placeV m, Value.agg m.cells)) →
    ∃ r, (Instr.findAsking 141 (placeV x) es i).run Tryd.prog w = .ok r w ∧ r.map (·.2) = (l.find? (samePl x)).map (fun m => Value.agg m.cells)
  | [], l, i, h => by
    have : l = [] := by cases l; rfl; simp at h
    subst this
    exact ⟨none, by simp [Instr.findAsking], rfl⟩
  | e :: es, [], i, h => by simp at h
  | e :: es, m :: l, i, h => by
    simp only [List.map_cons, List.cons.injEq, Prod.mk.injEq] at h
    obtain ⟨⟨hk, hv⟩, ht⟩ := h
    obtain ⟨r, h1, h2⟩ := findPlace x w es l (i + 1) ht
    have he := Tryd.eqPlace x m w
    cases hs : samePl x m with
    | true =>
      refine ⟨some (i, e.val), ?_, by simp [hs, hv]⟩
      rw [hs] at he
      simp [Instr.findAsking, hk, he]
    | false =>
      refine ⟨r, ?_, by simp [hs, h2]⟩
      rw [hs] at he
      simp [Instr.findAsking, hk, he, h1]

theorem findKeyPlace (x : MsgV) (w : World) (es : List MapEntry) (l : List MsgV) (h : es.map (fun e => (e.key, e.val)) = l.map (fun m => (placeV m, Value.agg m.cells))) :
    ∃ r, (Instr.findKey 141 (placeV x) es).run Tryd.prog w = .ok r w ∧ r.map (·.2) = (l.find? (samePl x)).map (fun m => Value.agg m.cells) := by
  cases es with
  | nil =>
    have : l = [] := by cases l; rfl; simp at h
    subst this
    exact ⟨none, by simp [Instr.findKey, run_underlying Tryd.underlying141, Instr.findNow], rfl⟩
  | cons e es =>
    obtain ⟨r, h1, h2⟩ := findPlace x w (e :: es) l 0 h
    refine ⟨r, ?_, h2⟩
    have e1 : ∀ d, Instr.findNow (.struct d) (placeV x) (e :: es) 0 = none := fun d => by
      simp [Instr.findNow, Instr.sameNow]
    simp [Instr.findKey, run_underlying Tryd.underlying141, e1, h1]

/-- A map of messages by their places lies in block mb. -/
def PlacesAt (w : World) (mb : Nat) (l : List MsgV) : Prop := ∃ es clock, w.heap[mb]? = some (.map es clock) ∧ es.toList.map (fun e => (e.key, e.val)) = l.map (fun m => (placeV m, Value.agg m.cells))

theorem Tryd.zeroMsg (w : World) : (zeroValue 28).run Tryd.prog w = .ok (.agg msg0.cells) w := by kernel_rfl

theorem lookup_no (mb : Nat) (l : List MsgV) (x : MsgV) (w : World) (h : PlacesAt w mb l) (hn : l.find? (samePl x) = none) :
    (Instr.lookup 139 (.map (some mb)) (placeV x) true).run Tryd.prog w = .ok (.tuple #[.agg msg0.cells, .bool false]) w := by
  obtain ⟨es, clock, hb, hl⟩ := h
  obtain ⟨r, h1, h2⟩ := findKeyPlace x w es.toList l hl
  rw [hn] at h2
  have hr : r = none := by cases r; rfl; simp at h2
  subst hr
  have hc := Tryd.checkPlace es.isEmpty x.h x.r x.f w
  have hz := Tryd.zeroMsg w
  unfold placeV at h1 ⊢
  simp [Instr.lookup, run_underlying Tryd.underlying139, MapKept.run_getObj_map hb, hc, h1, hz]

theorem lookup_yes (mb : Nat) (l : List MsgV) (x m : MsgV) (w : World) (h : PlacesAt w mb l) (hn : l.find? (samePl x) = some m) :
    (Instr.lookup 139 (.map (some mb)) (placeV x) true).run Tryd.prog w = .ok (.tuple #[.agg m.cells, .bool true]) w := by
  obtain ⟨es, clock, hb, hl⟩ := h
  obtain ⟨r, h1, h2⟩ := findKeyPlace x w es.toList l hl
  rw [hn] at h2
  obtain ⟨i, v, rfl⟩ : ∃ i v, r = some (i, v) := by
    cases r with
    | none => simp at h2
    | some p => exact ⟨p.1, p.2, rfl⟩
  have hv : v = .agg m.cells := by simpa using h2
  subst hv
  have hc := Tryd.checkPlace es.isEmpty x.h x.r x.f w
  unfold placeV at h1 ⊢
  simp [Instr.lookup, run_underlying Tryd.underlying139, MapKept.run_getObj_map hb, hc, h1]

theorem update_new (mb : Nat) (l : List MsgV) (x : MsgV) (w : World) (h : PlacesAt w mb l) (hn : l.find? (samePl x) = none) :
    ∃ w', (Instr.mapUpdate 139 (.map (some mb)) (placeV x) (.agg x.cells)).run Tryd.prog w = .ok () w' ∧ PlacesAt w' mb (l ++ [x]) ∧ Only mb w w' := by
  obtain ⟨es, clock, hb, hl⟩ := h
  obtain ⟨r, h1, h2⟩ := findKeyPlace x w es.toList l hl
  rw [hn] at h2
  have hr : r = none := by cases r; rfl; simp at h2
  subst hr
  have hc := Tryd.checkPlace false x.h x.r x.f w
  have hlt := row_lt0 hb
  refine ⟨{ w with heap := w.heap.setIfInBounds mb (.map (es.push ⟨placeV x, .agg x.cells, clock⟩) (clock + 1)) }, ?_, ?_, ?_⟩
  · unfold placeV at h1 ⊢
    simp [Instr.mapUpdate, run_underlying Tryd.underlying139, MapKept.run_getObj_map hb, hc, h1, MapKept.run_setObj_map _ hb, Result.andThen]
  · refine ⟨es.push ⟨placeV x, .agg x.cells, clock⟩, clock + 1, ?_, ?_⟩
    · simp [hlt]
    · simp [hl]
  · refine ⟨rfl, rfl, rfl, by simp, fun k hk => ?_⟩
    simp [Ne.symm hk]

section
variable {P : Program}
theorem wpList_lookup_run {ops : Array Oper} {rest : List Oper} {op : Oper} {a : Act} {w : World} {Q : Exit → Act → World → Prop} (hgd : op.guard = none) (t : TypeId) (x y : Operand) (ok : Bool) (ho : op.op = .lookup t x y ok) (vx vy v : Value)
    (hx : a.eval x = vx) (hy : a.eval y = vy) (hr : (Instr.lookup t vx vy ok).run P w = .ok v w) (h : wpList P ops Q rest (a.put op.dst v) w) : wpList P ops Q (op :: rest) a w :=
  wpList_plain hgd fun _ hK => by
    unfold Oper.wp execOp
    simp only [ho, hx, hy, hr, Sem.run_bind, Sem.run_pure, Result.andThen_ok]
    exact hK _ _ h
theorem wpList_mapUpdate_run {ops : Array Oper} {rest : List Oper} {op : Oper} {a : Act} {w w' : World} {Q : Exit → Act → World → Prop} (hgd : op.guard = none) (t : TypeId) (x y z : Operand) (ho : op.op = .mapUpdate t x y z) (vx vy vz : Value)
    (hx : a.eval x = vx) (hy : a.eval y = vy) (hz : a.eval z = vz) (hr : (Instr.mapUpdate t vx vy vz).run P w = .ok () w') (h : wpList P ops Q rest (a.put op.dst undef) w') : wpList P ops Q (op :: rest) a w :=
  wpList_plain hgd fun _ hK => by
    unfold Oper.wp execOp
    simp only [ho, hx, hy, hz, hr, Sem.run_bind, Sem.run_pure, Result.andThen_ok]
    exact hK _ _ h
end

/-- The first message of each place. -/
def firstL (ms : Nat → MsgV) : Nat → List MsgV
  | 0 => []
  | k + 1 => if (firstL ms k).find? (samePl (ms k)) = none then firstL ms k ++ [ms k] else firstL ms k
theorem firstL_mem {ms : Nat → MsgV} : ∀ {k : Nat} {m : MsgV}, m ∈ firstL ms k → ∃ y, y < k ∧ ms y = m
  | 0, m, h => by cases h
  | k + 1, m, h => by
    unfold firstL at h
    split at h
    · rcases List.mem_append.1 h with h | h
      · obtain ⟨y, h1, h2⟩ := firstL_mem h
        exact ⟨y, by omega, h2⟩
      · rw [List.mem_singleton] at h
        exact ⟨k, by omega, h.symm⟩
    · obtain ⟨y, h1, h2⟩ := firstL_mem h
      exact ⟨y, by omega, h2⟩
theorem firstL_has {ms : Nat → MsgV} : ∀ {k y : Nat}, y < k → ∃ m, m ∈ firstL ms k ∧ samePl (ms y) m = true
  | 0, y, h => by omega
  | k + 1, y, h => by
    have refl : ∀ m, samePl m m = true := fun m => (samePl_iff m m).2 ⟨rfl, rfl, rfl⟩
    unfold firstL
    split
    · rename_i hn
      by_cases e : y = k
      · subst e
        exact ⟨ms y, by simp, refl _⟩
      · obtain ⟨m, h1, h2⟩ := firstL_has (ms := ms) (k := k) (y := y) (by omega)
        exact ⟨m, by simp [h1], h2⟩
    · rename_i hn
      by_cases e : y = k
      · subst e
        obtain ⟨m, hm⟩ := Option.ne_none_iff_exists'.1 hn
        exact ⟨m, List.mem_of_find?_eq_some hm, List.find?_some hm⟩
      · exact firstL_has (by omega)
theorem firstL_none {ms : Nat → MsgV} {k : Nat} (h : (firstL ms k).find? (samePl (ms k)) = none) : ∀ y, y < k → ¬ OfPlace (ms y) (ms k).h (ms k).r (ms k).f := by
  intro y hy hp
  obtain ⟨m, h1, h2⟩ := firstL_has hy (ms := ms)
  have h3 := List.find?_eq_none.1 h m h1
  have h4 := (samePl_iff _ _).1 h2
  exact h3 ((samePl_iff _ _).2 ⟨h4.1.trans hp.1, h4.2.1.trans hp.2.1, h4.2.2.trans hp.2.2⟩)

end Go.Proofs.YtcfjhbcpjpgodaaDoor
