/- Proved here: plain facts on whom the document blames. · Proved here: plain facts on two precommits that differ in one place. · Proved here: laws for a map of messages by their places: how two places and two messages compare; what a look-up finds; what a store leaves. -/
import Derived.Test.YtcfjhbcpjpgodaaGreatDoorJ2
import Derived.Test.YtcfjhbcpjpgodaaGreatDoorJ16
import Derived.Test.YtcfjhbcpjpgodaaGreatDoorRowsG
import Derived.ChangeKeysEq
import Derived.MapKept
namespace Go.Proofs.YtcfjhbcpjpgodaaGreatDoor
open Go.RowKit

/-- Do two frames blame an id? -/
def pairB (sg : Nat → List ByteArray) (n : Nat) (id : Nat) (a b : ByteArray) : Prop :=
  decOk a = true ∧ decOk b = true ∧ (decV a).f = id ∧ (decV b).f = id ∧ (decV a).k = 3 ∧ (decV b).k = 3 ∧ (decV a).h = (decV b).h ∧ (decV a).r = (decV b).r ∧ signedB sg n id a = true ∧ signedB sg n id b = true ∧ a ≠ b

/-- Of frames by number: do two of them blame the id, of those that come ahead of i and k? -/
def BadTo (sg : Nat → List ByteArray) (n id : Nat) (fr : Nat → ByteArray) (i k : Nat) : Prop := ∃ x y, y < x ∧ (x < i ∨ x = i ∧ y < k) ∧ pairB sg n id (fr x) (fr y)

theorem BadTo.zero {sg : Nat → List ByteArray} {n id : Nat} {fr : Nat → ByteArray} : ¬ BadTo sg n id fr 0 0 := by
  rintro ⟨x, y, h1, h2, _⟩
  omega
theorem BadTo.next {sg : Nat → List ByteArray} {n id : Nat} {fr : Nat → ByteArray} {i : Nat} : BadTo sg n id fr i i ↔ BadTo sg n id fr (i + 1) 0 := by
  constructor
  · rintro ⟨x, y, h1, h2, h3⟩
    exact ⟨x, y, h1, by omega, h3⟩
  · rintro ⟨x, y, h1, h2, h3⟩
    exact ⟨x, y, h1, by omega, h3⟩
theorem BadTo.step {sg : Nat → List ByteArray} {n id : Nat} {fr : Nat → ByteArray} {i k : Nat} (hk : k < i) : BadTo sg n id fr i (k + 1) ↔ BadTo sg n id fr i k ∨ pairB sg n id (fr i) (fr k) := by
  constructor
  · rintro ⟨x, y, h1, h2, h3⟩
    by_cases e : x = i ∧ y = k
    · obtain ⟨rfl, rfl⟩ := e
      exact Or.inr h3
    · exact Or.inl ⟨x, y, h1, by omega, h3⟩
  · rintro (⟨x, y, h1, h2, h3⟩ | h)
    · exact ⟨x, y, h1, by omega, h3⟩
    · exact ⟨i, k, hk, Or.inr ⟨rfl, by omega⟩, h⟩

/-- Do two frames blame an id? (told) -/
def pairBb (sg : Nat → List ByteArray) (n : Nat) (id : Nat) (a b : ByteArray) : Bool :=
  decOk a && decOk b && decide ((decV a).f = id ∧ (decV b).f = id ∧ (decV a).k = 3 ∧ (decV b).k = 3 ∧ (decV a).h = (decV b).h ∧ (decV a).r = (decV b).r) && signedB sg n id a && signedB sg n id b && !(a.data == b.data)
theorem pairBb_iff (sg : Nat → List ByteArray) (n : Nat) (id : Nat) (a b : ByteArray) : pairBb sg n id a b = true ↔ pairB sg n id a b := by
  unfold pairBb pairB
  simp only [Bool.and_eq_true, decide_eq_true_eq, Bool.not_eq_true', beq_eq_false_iff_ne]
  constructor
  · rintro ⟨⟨⟨⟨⟨h1, h2⟩, h3, h4, h5, h6, h7, h8⟩, h9⟩, h10⟩, h11⟩
    exact ⟨h1, h2, h3, h4, h5, h6, h7, h8, h9, h10, fun e => h11 (by rw [e])⟩
  · rintro ⟨h1, h2, h3, h4, h5, h6, h7, h8, h9, h10, h11⟩
    exact ⟨⟨⟨⟨⟨h1, h2⟩, h3, h4, h5, h6, h7, h8⟩, h9⟩, h10⟩, fun e => h11 (ByteArray.ext e)⟩
def badB (sg : Nat → List ByteArray) (n id : Nat) (fr : Nat → ByteArray) (m : Nat) : Bool := (List.range m).any fun x => (List.range x).any fun y => pairBb sg n id (fr x) (fr y)
theorem badB_iff (sg : Nat → List ByteArray) (n id : Nat) (fr : Nat → ByteArray) (m : Nat) : badB sg n id fr m = true ↔ BadTo sg n id fr m 0 := by
  unfold badB BadTo
  simp only [List.any_eq_true, List.mem_range, pairBb_iff]
  constructor
  · rintro ⟨x, hx, y, hy, h⟩
    exact ⟨x, y, hy, Or.inl hx, h⟩
  · rintro ⟨x, y, hy, hx, h⟩
    exact ⟨x, by omega, y, hy, h⟩

/-- Whom the document blames. -/
def blameL (sg : Nat → List ByteArray) (n : Nat) (fr : Nat → ByteArray) (m : Nat) (top : Nat) : List Nat := (List.range top).filter fun id => badB sg n id fr m

end Go.Proofs.YtcfjhbcpjpgodaaGreatDoor
namespace Go.Proofs.YtcfjhbcpjpgodaaGreatDoor
open Go.RowKit

theorem msgV_ext {a b : MsgV} (h1 : a.k = b.k) (h2 : a.h = b.h) (h3 : a.r = b.r) (h4 : a.f = b.f) (h5 : a.v = b.v) (h6 : a.nl = b.nl) (h7 : a.s = b.s) : a = b := by
  cases a; cases b; simp only at h1 h2 h3 h4 h5 h6 h7; subst h1 h2 h3 h4 h5 h6 h7; rfl

theorem byt_inj {a b : ByteArray} {i : Nat} (h : byt a i = byt b i) : a.data.toList.getD i 0 = b.data.toList.getD i 0 := by
  unfold byt at h
  have h2 : (a.data.toList.getD i 0).toNat = (b.data.toList.getD i 0).toNat := by omega
  exact UInt8.toNat_inj.1 h2

theorem text_of_bytes {a b : ByteArray} (h6 : 6 ≤ a.size) (h6' : 6 ≤ b.size) (h : ∀ i, i < 6 → byt a i = byt b i) (he : a.extract 6 a.size = b.extract 6 b.size) : a = b := by
  apply ByteArray.ext
  apply Array.ext'
  have e2 : a.data.toList.drop 6 = b.data.toList.drop 6 := by
    have e3 : (a.extract 6 a.size).data.toList = (b.extract 6 b.size).data.toList := by rw [he]
    rw [Lib.extract_data, Lib.extract_data] at e3
    have la : a.data.toList.length = a.size := by simp
    have lb : b.data.toList.length = b.size := by simp
    rw [List.take_of_length_le (by simp), List.take_of_length_le (by simp)] at e3
    exact e3
  have e1 : a.data.toList.take 6 = b.data.toList.take 6 := by
    apply List.ext_getElem
    · simp; omega
    · intro i hi hi'
      have hl : i < 6 := by simp at hi; omega
      have ha : i < a.data.toList.length := by simp at hi ⊢; omega
      have hb : i < b.data.toList.length := by simp at hi' ⊢; omega
      have := byt_inj (h i hl)
      rw [List.getD_eq_getElem?_getD, List.getD_eq_getElem?_getD, List.getElem?_eq_getElem ha, List.getElem?_eq_getElem hb] at this
      rw [List.getElem_take, List.getElem_take]
      exact this
  rw [← List.take_append_drop 6 a.data.toList, ← List.take_append_drop 6 b.data.toList, e1, e2]

theorem decV_inj {a b : ByteArray} (ha : decOk a = true) (hb : decOk b = true) (h : decV a = decV b) : a = b := by
  have ha1 := ha
  have hb1 := hb
  unfold decOk decB at ha1 hb1
  simp only [Bool.and_eq_true, decide_eq_true_eq] at ha1 hb1
  obtain ⟨a6, ⟨_, am⟩, an⟩ := ha1
  obtain ⟨b6, ⟨_, bm⟩, bn⟩ := hb1
  unfold decV at h
  rw [if_pos ha, if_pos hb] at h
  injection h with h0 h1 h2 h3 h4 h5 h7
  refine text_of_bytes a6 b6 (fun i hi => ?_) h7
  match i, hi with
  | 0, _ => exact h0
  | 1, _ => exact h1
  | 2, _ => exact h2
  | 3, _ => exact h3
  | 4, _ => rw [← am, ← bm, h4, h5, h0]
  | 5, _ => rw [← an, ← bn, h7]
  | n + 6, h => omega

/-- Is a frame a signed precommit? -/
def voteB (sg : Nat → List ByteArray) (n : Nat) (t : ByteArray) : Bool := decOk t && signedB sg n (decV t).f t && decide ((decV t).k = 3)

/-- The signed precommits of frames. -/
def votesL (sg : Nat → List ByteArray) (n : Nat) (fr : Nat → ByteArray) : Nat → List MsgV
  | 0 => []
  | m + 1 => votesL sg n fr m ++ (if voteB sg n (fr m) then [decV (fr m)] else [])

theorem votesL_yes {sg : Nat → List ByteArray} {n : Nat} {fr : Nat → ByteArray} {m : Nat} (h : voteB sg n (fr m) = true) : votesL sg n fr (m + 1) = votesL sg n fr m ++ [decV (fr m)] := by
  show votesL sg n fr m ++ _ = _
  rw [if_pos h]
theorem votesL_no {sg : Nat → List ByteArray} {n : Nat} {fr : Nat → ByteArray} {m : Nat} (h : voteB sg n (fr m) = false) : votesL sg n fr (m + 1) = votesL sg n fr m := by
  show votesL sg n fr m ++ _ = _
  rw [h]
  simp
theorem votesL_len (sg : Nat → List ByteArray) (n : Nat) (fr : Nat → ByteArray) : ∀ m, (votesL sg n fr m).length ≤ m
  | 0 => Nat.le_refl _
  | m + 1 => by
    show (votesL sg n fr m ++ _).length ≤ _
    have := votesL_len sg n fr m
    split <;> simp <;> omega
theorem votesL_mem {sg : Nat → List ByteArray} {n : Nat} {fr : Nat → ByteArray} {a : MsgV} : ∀ {m : Nat}, a ∈ votesL sg n fr m ↔ ∃ i, i < m ∧ voteB sg n (fr i) = true ∧ a = decV (fr i)
  | 0 => by
    constructor
    · intro h; cases h
    · rintro ⟨i, h, _⟩; omega
  | m + 1 => by
    show a ∈ votesL sg n fr m ++ _ ↔ _
    rw [List.mem_append, votesL_mem]
    constructor
    · rintro (⟨i, hi, h⟩ | h)
      · exact ⟨i, by omega, h⟩
      · split at h
        · rename_i hv
          exact ⟨m, by omega, hv, by simpa using h⟩
        · cases h
    · rintro ⟨i, hi, hv, h⟩
      by_cases e : i = m
      · subst e
        rw [if_pos hv, h]
        exact Or.inr (by simp)
      · exact Or.inl ⟨i, by omega, hv, h⟩

/-- Two of the first k messages are of one place, of the sender id, and differ. -/
def Two (ms : Nat → MsgV) (k : Nat) (id : Int) : Prop := ∃ x y, x < k ∧ y < k ∧ (ms x).f = id ∧ (ms x).h = (ms y).h ∧ (ms x).r = (ms y).r ∧ (ms x).f = (ms y).f ∧ ms x ≠ ms y

/-- Is y the first of the first k of its place? -/
def OfPlace (m : MsgV) (h r f : Int) : Prop := m.h = h ∧ m.r = r ∧ m.f = f

theorem two_new {ms : Nat → MsgV} {k : Nat} (h : ∀ y, y < k → ¬ OfPlace (ms y) (ms k).h (ms k).r (ms k).f) (id : Int) : Two ms (k + 1) id ↔ Two ms k id := by
  constructor
  · rintro ⟨x, y, hx, hy, h1, h2, h3, h4, h5⟩
    by_cases ex : x = k
    · by_cases ey : y = k
      · subst ex ey; exact absurd rfl h5
      · subst ex; exact absurd ⟨h2.symm, h3.symm, h4.symm⟩ (h y (by omega))
    · by_cases ey : y = k
      · subst ey; exact absurd ⟨h2, h3, h4⟩ (h x (by omega))
      · exact ⟨x, y, by omega, by omega, h1, h2, h3, h4, h5⟩
  · rintro ⟨x, y, hx, hy, hr⟩
    exact ⟨x, y, by omega, by omega, hr⟩

theorem two_same {ms : Nat → MsgV} {k y0 : Nat} (hy0 : y0 < k) (he : ms y0 = ms k) (id : Int) : Two ms (k + 1) id ↔ Two ms k id := by
  constructor
  · rintro ⟨x, y, hx, hy, h1, h2, h3, h4, h5⟩
    have key : ∀ z, z < k + 1 → ∃ z', z' < k ∧ ms z' = ms z := fun z hz => by
      by_cases e : z = k
      · subst e; exact ⟨y0, hy0, he⟩
      · exact ⟨z, by omega, rfl⟩
    obtain ⟨x', hx', ex⟩ := key x hx
    obtain ⟨y', hy', ey⟩ := key y hy
    exact ⟨x', y', hx', hy', by rw [ex, ey]; exact ⟨h1, h2, h3, h4, h5⟩⟩
  · rintro ⟨x, y, hx, hy, hr⟩
    exact ⟨x, y, by omega, by omega, hr⟩

theorem two_hit {ms : Nat → MsgV} {k y0 : Nat} (hy0 : y0 < k) (hp : OfPlace (ms y0) (ms k).h (ms k).r (ms k).f) (hne : ms y0 ≠ ms k) : Two ms (k + 1) (ms k).f :=
  ⟨k, y0, by omega, by omega, rfl, hp.1.symm, hp.2.1.symm, hp.2.2.symm, fun e => hne e.symm⟩

theorem two_other {ms : Nat → MsgV} {k : Nat} {id : Int} (h : (ms k).f ≠ id) : Two ms (k + 1) id ↔ Two ms k id := by
  constructor
  · rintro ⟨x, y, hx, hy, h1, h2, h3, h4, h5⟩
    have ex : x ≠ k := fun e => by subst e; exact h h1
    have ey : y ≠ k := fun e => by subst e; exact h (by rw [← h4]; exact h1)
    exact ⟨x, y, by omega, by omega, h1, h2, h3, h4, h5⟩
  · rintro ⟨x, y, hx, hy, hr⟩
    exact ⟨x, y, by omega, by omega, hr⟩

theorem two_bad {sg : Nat → List ByteArray} {n : Nat} {fr : Nat → ByteArray} {m id : Nat} : Two (fun i => (votesL sg n fr m).getD i msg0) (votesL sg n fr m).length id ↔ BadTo sg n id fr m 0 := by
  have get : ∀ x, x < (votesL sg n fr m).length → (votesL sg n fr m).getD x msg0 ∈ votesL sg n fr m := fun x hx => by
    rw [List.getD_eq_getElem?_getD, List.getElem?_eq_getElem hx]
    exact List.getElem_mem hx
  have put : ∀ a, a ∈ votesL sg n fr m → ∃ x, x < (votesL sg n fr m).length ∧ (votesL sg n fr m).getD x msg0 = a := fun a ha => by
    obtain ⟨x, hx, e⟩ := List.getElem_of_mem ha
    exact ⟨x, hx, by rw [List.getD_eq_getElem?_getD, List.getElem?_eq_getElem hx]; exact e⟩
  constructor
  · rintro ⟨x, y, hx, hy, h1, h2, h3, h4, h5⟩
    obtain ⟨i, hi, vi, ei⟩ := votesL_mem.1 (get x hx)
    obtain ⟨j, hj, vj, ej⟩ := votesL_mem.1 (get y hy)
    simp only [ei, ej] at h1 h2 h3 h4 h5
    unfold voteB at vi vj
    simp only [Bool.and_eq_true, decide_eq_true_eq] at vi vj
    obtain ⟨⟨oi, si⟩, ki⟩ := vi
    obtain ⟨⟨oj, sj⟩, kj⟩ := vj
    have hne : fr i ≠ fr j := fun e => h5 (by rw [e])
    rw [h1] at si
    rw [← h4, h1] at sj
    by_cases hij : j < i
    · exact ⟨i, j, hij, Or.inl hi, oi, oj, h1, by rw [← h4]; exact h1, ki, kj, h2, h3, si, sj, hne⟩
    · have hji : i < j := by
        have : i ≠ j := fun e => hne (by rw [e])
        omega
      exact ⟨j, i, hji, Or.inl hj, oj, oi, by rw [← h4]; exact h1, h1, kj, ki, h2.symm, h3.symm, sj, si, fun e => hne e.symm⟩
  · rintro ⟨i, j, hji, hi, oi, oj, fi, fj, ki, kj, hh, hr, si, sj, hne⟩
    have vi : voteB sg n (fr i) = true := by unfold voteB; rw [oi, fi, si, ki]; rfl
    have vj : voteB sg n (fr j) = true := by unfold voteB; rw [oj, fj, sj, kj]; rfl
    obtain ⟨x, hx, ex⟩ := put _ (votesL_mem.2 ⟨i, by omega, vi, rfl⟩)
    obtain ⟨y, hy, ey⟩ := put _ (votesL_mem.2 ⟨j, by omega, vj, rfl⟩)
    refine ⟨x, y, hx, hy, ?_⟩
    simp only [ex, ey]
    exact ⟨fi, hh, hr, by rw [fi, fj], fun e => hne (decV_inj oi oj e)⟩

end Go.Proofs.YtcfjhbcpjpgodaaGreatDoor
namespace Go.Proofs.YtcfjhbcpjpgodaaGreatDoor
open Go.RowKit

/-- A message's place as a key. -/
def placeV (m : MsgV) : Value := .agg #[.int .i64 m.h, .int .i64 m.r, .int .i64 m.f]
def samePl (a b : MsgV) : Bool := a.h == b.h && (a.r == b.r && a.f == b.f)
def msgB (a b : MsgV) : Bool := a.k == b.k && (a.h == b.h && (a.r == b.r && (a.f == b.f && (a.v == b.v && (a.nl == b.nl && a.s.toList == b.s.toList)))))

theorem toList_eq_iff (s t : ByteArray) : s.toList = t.toList ↔ s = t := by
  constructor
  · intro h
    rw [ByteArray.toList_eq, ByteArray.toList_eq] at h
    exact ByteArray.ext (Array.ext' h)
  · rintro rfl; rfl
theorem samePl_iff (a b : MsgV) : samePl a b = true ↔ OfPlace b a.h a.r a.f := by
  unfold samePl OfPlace
  simp only [Bool.and_eq_true, beq_iff_eq]
  constructor
  · rintro ⟨h1, h2, h3⟩; exact ⟨h1.symm, h2.symm, h3.symm⟩
  · rintro ⟨h1, h2, h3⟩; exact ⟨h1.symm, h2.symm, h3.symm⟩
theorem msgB_iff (a b : MsgV) : msgB a b = true ↔ a = b := by
  unfold msgB
  simp only [Bool.and_eq_true, beq_iff_eq, toList_eq_iff]
  constructor
  · rintro ⟨h1, h2, h3, h4, h5, h6, h7⟩; exact msgV_ext h1 h2 h3 h4 h5 h6 h7
  · rintro rfl; exact ⟨rfl, rfl, rfl, rfl, rfl, rfl, rfl⟩

theorem Tryz.checkPlace (b : Bool) (h r f : Int) (w : World) : (Instr.checkKey b 10000 234 (.agg #[.int .i64 h, .int .i64 r, .int .i64 f])).run Tryz.prog w = .ok () w := by kernel_rfl

theorem Tryz.eqPlace (a b : MsgV) (w : World) : (Op.equal 234 (placeV a) (placeV b)).run Tryz.prog w = .ok (samePl a b) w := by
  unfold Op.equal Op.maxDepth placeV samePl
  go_simp
  repeat' split
  all_goals simp_all

theorem Tryz.neqMsg (a b : MsgV) (w : World) : (binOp .neq 57 (.agg a.cells) (.agg b.cells)).run Tryz.prog w = .ok (.bool (!msgB a b)) w := by
  unfold MsgV.cells msgB
  go_simp
  repeat' split
  all_goals simp_all

/-- The look-up goes through the entries in their order. -/
theorem findPlace (x : MsgV) (w : World) : ∀ (es : List MapEntry) (l : List MsgV) (i : Nat), es.map (fun e => (e.key, e.val)) = l.map (fun m => (placeV m, Value.agg m.cells)) →
    ∃ r, (Instr.findAsking 234 (placeV x) es i).run Tryz.prog w = .ok r w ∧ r.map (·.2) = (l.find? (samePl x)).map (fun m => Value.agg m.cells)
  | [], l, i, h => by
    have : l = [] := by cases l; rfl; simp at h
    subst this
    exact ⟨none, by simp [Instr.findAsking], rfl⟩
  | e :: es, [], i, h => by simp at h
  | e :: es, m :: l, i, h => by
    simp only [List.map_cons, List.cons.injEq, Prod.mk.injEq] at h
    obtain ⟨⟨hk, hv⟩, ht⟩ := h
    obtain ⟨r, h1, h2⟩ := findPlace x w es l (i + 1) ht
    have he := Tryz.eqPlace x m w
    cases hs : samePl x m with
    | true =>
      refine ⟨some (i, e.val), ?_, by simp [hs, hv]⟩
      rw [hs] at he
      simp [Instr.findAsking, hk, he]
    | false =>
      refine ⟨r, ?_, by simp [hs, h2]⟩
      rw [hs] at he
      simp [Instr.findAsking, hk, he, h1]

theorem findKeyPlace (x : MsgV) (w : World) (es : List MapEntry) (l : List MsgV) (h : es.map (fun e => (e.key, e.val)) = l.map (fun m => (placeV m, Value.agg m.cells))) :
    ∃ r, (Instr.findKey 234 (placeV x) es).run Tryz.prog w = .ok r w ∧ r.map (·.2) = (l.find? (samePl x)).map (fun m => Value.agg m.cells) := by
  cases es with
  | nil =>
    have : l = [] := by cases l; rfl; simp at h
    subst this
    exact ⟨none, by simp [Instr.findKey, run_underlying Tryz.underlying234, Instr.findNow], rfl⟩
  | cons e es =>
    obtain ⟨r, h1, h2⟩ := findPlace x w (e :: es) l 0 h
    refine ⟨r, ?_, h2⟩
    have e1 : ∀ d, Instr.findNow (.struct d) (placeV x) (e :: es) 0 = none := fun d => by
      simp [Instr.findNow, Instr.sameNow]
    simp [Instr.findKey, run_underlying Tryz.underlying234, e1, h1]

/-- A map of messages by their places lies in block mb. -/
def PlacesAt (w : World) (mb : Nat) (l : List MsgV) : Prop := ∃ es clock, w.heap[mb]? = some (.map es clock) ∧ es.toList.map (fun e => (e.key, e.val)) = l.map (fun m => (placeV m, Value.agg m.cells))

theorem Tryz.zeroMsg (w : World) : (zeroValue 57).run Tryz.prog w = .ok (.agg msg0.cells) w := by kernel_rfl

theorem lookup_no (mb : Nat) (l : List MsgV) (x : MsgV) (w : World) (h : PlacesAt w mb l) (hn : l.find? (samePl x) = none) :
    (Instr.lookup 232 (.map (some mb)) (placeV x) true).run Tryz.prog w = .ok (.tuple #[.agg msg0.cells, .bool false]) w := by
  obtain ⟨es, clock, hb, hl⟩ := h
  obtain ⟨r, h1, h2⟩ := findKeyPlace x w es.toList l hl
  rw [hn] at h2
  have hr : r = none := by cases r; rfl; simp at h2
  subst hr
  have hc := Tryz.checkPlace es.isEmpty x.h x.r x.f w
  have hz := Tryz.zeroMsg w
  unfold placeV at h1 ⊢
  simp [Instr.lookup, run_underlying Tryz.underlying232, MapKept.run_getObj_map hb, hc, h1, hz]

theorem lookup_yes (mb : Nat) (l : List MsgV) (x m : MsgV) (w : World) (h : PlacesAt w mb l) (hn : l.find? (samePl x) = some m) :
    (Instr.lookup 232 (.map (some mb)) (placeV x) true).run Tryz.prog w = .ok (.tuple #[.agg m.cells, .bool true]) w := by
  obtain ⟨es, clock, hb, hl⟩ := h
  obtain ⟨r, h1, h2⟩ := findKeyPlace x w es.toList l hl
  rw [hn] at h2
  obtain ⟨i, v, rfl⟩ : ∃ i v, r = some (i, v) := by
    cases r with
    | none => simp at h2
    | some p => exact ⟨p.1, p.2, rfl⟩
  have hv : v = .agg m.cells := by simpa using h2
  subst hv
  have hc := Tryz.checkPlace es.isEmpty x.h x.r x.f w
  unfold placeV at h1 ⊢
  simp [Instr.lookup, run_underlying Tryz.underlying232, MapKept.run_getObj_map hb, hc, h1]

theorem update_new (mb : Nat) (l : List MsgV) (x : MsgV) (w : World) (h : PlacesAt w mb l) (hn : l.find? (samePl x) = none) :
    ∃ w', (Instr.mapUpdate 232 (.map (some mb)) (placeV x) (.agg x.cells)).run Tryz.prog w = .ok () w' ∧ PlacesAt w' mb (l ++ [x]) ∧ Only mb w w' := by
  obtain ⟨es, clock, hb, hl⟩ := h
  obtain ⟨r, h1, h2⟩ := findKeyPlace x w es.toList l hl
  rw [hn] at h2
  have hr : r = none := by cases r; rfl; simp at h2
  subst hr
  have hc := Tryz.checkPlace false x.h x.r x.f w
  have hlt := row_lt0 hb
  refine ⟨{ w with heap := w.heap.setIfInBounds mb (.map (es.push ⟨placeV x, .agg x.cells, clock⟩) (clock + 1)) }, ?_, ?_, ?_⟩
  · unfold placeV at h1 ⊢
    simp [Instr.mapUpdate, run_underlying Tryz.underlying232, MapKept.run_getObj_map hb, hc, h1, MapKept.run_setObj_map _ hb, Result.andThen]
  · refine ⟨es.push ⟨placeV x, .agg x.cells, clock⟩, clock + 1, ?_, ?_⟩
    · simp [hlt]
    · simp [hl]
  · refine ⟨rfl, rfl, rfl, by simp, fun k hk => ?_⟩
    simp [Ne.symm hk]

section
variable {P : Program}
theorem wpList_lookup_run {ops : Array Oper} {rest : List Oper} {op : Oper} {a : Act} {w : World} {Q : Exit → Act → World → Prop} (hgd : op.guard = none) (t : TypeId) (x y : Operand) (ok : Bool) (ho : op.op = .lookup t x y ok) (vx vy v : Value)
    (hx : a.eval x = vx) (hy : a.eval y = vy) (hr : (Instr.lookup t vx vy ok).run P w = .ok v w) (h : wpList P ops Q rest (a.put op.dst v) w) : wpList P ops Q (op :: rest) a w :=
  wpList_plain hgd fun _ hK => by
    unfold Oper.wp execOp
    simp only [ho, hx, hy, hr, Sem.run_bind, Sem.run_pure, Result.andThen_ok]
    exact hK _ _ h
theorem wpList_mapUpdate_run {ops : Array Oper} {rest : List Oper} {op : Oper} {a : Act} {w w' : World} {Q : Exit → Act → World → Prop} (hgd : op.guard = none) (t : TypeId) (x y z : Operand) (ho : op.op = .mapUpdate t x y z) (vx vy vz : Value)
    (hx : a.eval x = vx) (hy : a.eval y = vy) (hz : a.eval z = vz) (hr : (Instr.mapUpdate t vx vy vz).run P w = .ok () w') (h : wpList P ops Q rest (a.put op.dst undef) w') : wpList P ops Q (op :: rest) a w :=
  wpList_plain hgd fun _ hK => by
    unfold Oper.wp execOp
    simp only [ho, hx, hy, hz, hr, Sem.run_bind, Sem.run_pure, Result.andThen_ok]
    exact hK _ _ h
end

/-- The first message of each place. -/
def firstL (ms : Nat → MsgV) : Nat → List MsgV
  | 0 => []
  | k + 1 => if (firstL ms k).find? (samePl (ms k)) = none then firstL ms k ++ [ms k] else firstL ms k
theorem firstL_mem {ms : Nat → MsgV} : ∀ {k : Nat} {m : MsgV}, m ∈ firstL ms k → ∃ y, y < k ∧ ms y = m
  | 0, m, h => by cases h
  | k + 1, m, h => by
    unfold firstL at h
    split at h
    · rcases List.mem_append.1 h with h | h
      · obtain ⟨y, h1, h2⟩ := firstL_mem h
        exact ⟨y, by omega, h2⟩
      · rw [List.mem_singleton] at h
        exact ⟨k, by omega, h.symm⟩
    · obtain ⟨y, h1, h2⟩ := firstL_mem h
      exact ⟨y, by omega, h2⟩
theorem firstL_has {ms : Nat → MsgV} : ∀ {k y : Nat}, y < k → ∃ m, m ∈ firstL ms k ∧ samePl (ms y) m = true
  | 0, y, h => by omega
  | k + 1, y, h => by
    have refl : ∀ m, samePl m m = true := fun m => (samePl_iff m m).2 ⟨rfl, rfl, rfl⟩
    unfold firstL
    split
    · rename_i hn
      by_cases e : y = k
      · subst e
        exact ⟨ms y, by simp, refl _⟩
      · obtain ⟨m, h1, h2⟩ := firstL_has (ms := ms) (k := k) (y := y) (by omega)
        exact ⟨m, by simp [h1], h2⟩
    · rename_i hn
      by_cases e : y = k
      · subst e
        obtain ⟨m, hm⟩ := Option.ne_none_iff_exists'.1 hn
        exact ⟨m, List.mem_of_find?_eq_some hm, List.find?_some hm⟩
      · exact firstL_has (by omega)
theorem firstL_none {ms : Nat → MsgV} {k : Nat} (h : (firstL ms k).find? (samePl (ms k)) = none) : ∀ y, y < k → ¬ OfPlace (ms y) (ms k).h (ms k).r (ms k).f := by
  intro y hy hp
  obtain ⟨m, h1, h2⟩ := firstL_has hy (ms := ms)
  have h3 := List.find?_eq_none.1 h m h1
  have h4 := (samePl_iff _ _).1 h2
  exact h3 ((samePl_iff _ _).2 ⟨h4.1.trans hp.1, h4.2.1.trans hp.2.1, h4.2.2.trans hp.2.2⟩)

end Go.Proofs.YtcfjhbcpjpgodaaGreatDoor
