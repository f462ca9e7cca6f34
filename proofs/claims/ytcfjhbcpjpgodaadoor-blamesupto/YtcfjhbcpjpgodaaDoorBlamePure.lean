/- Proved here: plain facts on two precommits that differ in one place. -/
import Derived.Test.YtcfjhbcpjpgodaaDoorBlameSpec
namespace Go.Proofs.YtcfjhbcpjpgodaaDoor
open Go.RowKit

theorem msgV_ext {a b : MsgV} (h1 : a.k = b.k) (h2 : a.h = b.h) (h3 : a.r = b.r) (h4 : a.f = b.f) (h5 : a.v = b.v) (h6 : a.nl = b.nl) (h7 : a.s = b.s) : a = b := by
  cases a; cases b; simp only at h1 h2 h3 h4 h5 h6 h7; subst h1 h2 h3 h4 h5 h6 h7; rfl

theorem byt_inj {a b : ByteArray} {i : Nat} (h : byt a i = byt b i) : a.data.toList.getD i 0 = b.data.toList.getD i 0 := by
  unfold byt at h
  have h2 : (a.data.toList.getD i 0).toNat = (b.data.toList.getD i 0).toNat := by omega
  exact UInt8.toNat_inj.1 h2

theorem text_of_bytes {a b : ByteArray} (h6 : 6 ≤ a.size) (h6' : 6 ≤ b.size) (h : ∀ i, i < 6 → byt a i = byt b i) (he : a.extract 6 a.size = b.extract 6 b.size) : a = b := by
  apply ByteArray.ext
  apply Array.ext'
  have e2 : a.data.toList.drop 6 = b.data.toList.drop 6 := by
    have e3 : (a.extract 6 a.size).data.toList = (b.extract 6 b.size).data.toList := by rw [he]
    rw [Lib.extract_data, Lib.extract_data] at e3
    have la : a.data.toList.length = a.size := by simp
    have lb : b.data.toList.length = b.size := by simp
    rw [List.take_of_length_le (by simp), List.take_of_length_le (by simp)] at e3
    exact e3
  have e1 : a.data.toList.take 6 = b.data.toList.take 6 := by
    apply List.ext_getElem
    · simp; omega
    · intro i hi hi'
      have hl : i < 6 := by simp at hi; omega
      have ha : i < a.data.toList.length := by simp at hi ⊢; omega
      have hb : i < b.data.toList.length := by simp at hi' ⊢; omega
      have := byt_inj (h i hl)
      rw [List.getD_eq_getElem?_getD, List.getD_eq_getElem?_getD, List.getElem?_eq_getElem ha, List.getElem?_eq_getElem hb] at this
      rw [List.getElem_take, List.getElem_take]
      exact this
  rw [← List.take_append_drop 6 a.data.toList, ← List.take_append_drop 6 b.data.toList, e1, e2]

theorem decV_inj {a b : ByteArray} (ha : decOk a = true) (hb : decOk b = true) (h : decV a = decV b) : a = b := by
  have ha1 := ha
  have hb1 := hb
  unfold decOk decB at ha1 hb1
  simp only [Bool.and_eq_true, decide_eq_true_eq] at ha1 hb1
  obtain ⟨a6, ⟨_, am⟩, an⟩ := ha1
  obtain ⟨b6, ⟨_, bm⟩, bn⟩ := hb1
  unfold decV at h
  rw [if_pos ha, if_pos hb] at h
  injection h with h0 h1 h2 h3 h4 h5 h7
  refine text_of_bytes a6 b6 (fun i hi => ?_) h7
  match i, hi with
  | 0, _ => exact h0
  | 1, _ => exact h1
  | 2, _ => exact h2
  | 3, _ => exact h3
  | 4, _ => rw [← am, ← bm, h4, h5, h0]
  | 5, _ => rw [← an, ← bn, h7]
  | n + 6, h => omega

/-- Is a frame a signed precommit? -/
def voteB (sg : Nat → List ByteArray) (n : Nat) (t : ByteArray) : Bool := decOk t && signedB sg n (decV t).f t && decide ((decV t).k = 3)

/-- The signed precommits of frames. -/
def votesL (sg : Nat → List ByteArray) (n : Nat) (fr : Nat → ByteArray) : Nat → List MsgV
  | 0 => []
  | m + 1 => votesL sg n fr m ++ (if voteB sg n (fr m) then [decV (fr m)] else [])

theorem votesL_yes {sg : Nat → List ByteArray} {n : Nat} {fr : Nat → ByteArray} {m : Nat} (h : voteB sg n (fr m) = true) : votesL sg n fr (m + 1) = votesL sg n fr m ++ [decV (fr m)] := by
  show votesL sg n fr m ++ _ = _
  rw [if_pos h]
theorem votesL_no {sg : Nat → List ByteArray} {n : Nat} {fr : Nat → ByteArray} {m : Nat} (h : voteB sg n (fr m) = false) : votesL sg n fr (m + 1) = votesL sg n fr m := by
  show votesL sg n fr m ++ _ = _
  rw [h]
  simp
theorem votesL_len (sg : Nat → List ByteArray) (n : Nat) (fr : Nat → ByteArray) : ∀ m, (votesL sg n fr m).length ≤ m
  | 0 => Nat.le_refl _
  | m + 1 => by
    show (votesL sg n fr m ++ _).length ≤ _
    have := votesL_len sg n fr m
    split <;> simp <;> omega
theorem votesL_mem {sg : Nat → List ByteArray} {n : Nat} {fr : Nat → ByteArray} {a : MsgV} : ∀ {m : Nat}, a ∈ votesL sg n fr m ↔ ∃ i, i < m ∧ voteB sg n (fr i) = true ∧ a = decV (fr i)
  | 0 => by
    constructor
    · intro h; cases h
    · rintro ⟨i, h, _⟩; omega
  | m + 1 => by
    show a ∈ votesL sg n fr m ++ _ ↔ _
    rw [List.mem_append, votesL_mem]
    constructor
    · rintro (⟨i, hi, h⟩ | h)
      · exact ⟨i, by omega, h⟩
      · split at h
        · rename_i hv
          exact ⟨m, by omega, hv, by simpa using h⟩
        · cases h
    · rintro ⟨i, hi, hv, h⟩
      by_cases e : i = m
      · subst e
        rw [if_pos hv, h]
        exact Or.inr (by simp)
      · exact Or.inl ⟨i, by omega, hv, h⟩

/-- Two of the first k messages are of one place, of the sender id, and differ. -/
def Two (ms : Nat → MsgV) (k : Nat) (id : Int) : Prop := ∃ x y, x < k ∧ y < k ∧ (ms x).f = id ∧ (ms x).h = (ms y).h ∧ (ms x).r = (ms y).r ∧ (ms x).f = (ms y).f ∧ ms x ≠ ms y

/-- Is y the first of the first k of its place? -/
def OfPlace (m : MsgV) (h r f : Int) : Prop := m.h = h ∧ m.r = r ∧ m.f = f

theorem two_new {ms : Nat → MsgV} {k : Nat} (h : ∀ y, y < k → ¬ OfPlace (ms y) (ms k).h (ms k).r (ms k).f) (id : Int) : Two ms (k + 1) id ↔ Two ms k id := by
  constructor
  · rintro ⟨x, y, hx, hy, h1, h2, h3, h4, h5⟩
    by_cases ex : x = k
    · by_cases ey : y = k
      · subst ex ey; exact absurd rfl h5
      · subst ex; exact absurd ⟨h2.symm, h3.symm, h4.symm⟩ (h y (by omega))
    · by_cases ey : y = k
      · subst ey; exact absurd ⟨h2, h3, h4⟩ (h x (by omega))
      · exact ⟨x, y, by omega, by omega, h1, h2, h3, h4, h5⟩
  · rintro ⟨x, y, hx, hy, hr⟩
    exact ⟨x, y, by omega, by omega, hr⟩

theorem two_same {ms : Nat → MsgV} {k y0 : Nat} (hy0 : y0 < k) (he : ms y0 = ms k) (id : Int) : Two ms (k + 1) id ↔ Two ms k id := by
  constructor
  · rintro ⟨x, y, hx, hy, h1, h2, h3, h4, h5⟩
    have key : ∀ z, z < k + 1 → ∃ z', z' < k ∧ ms z' = ms z := fun z hz => by
      by_cases e : z = k
      · subst e; exact ⟨y0, hy0, he⟩
      · exact ⟨z, by omega, rfl⟩
    obtain ⟨x', hx', ex⟩ := key x hx
    obtain ⟨y', hy', ey⟩ := key y hy
    exact ⟨x', y', hx', hy', by rw [ex, ey]; exact ⟨h1, h2, h3, h4, h5⟩⟩
  · rintro ⟨x, y, hx, hy, hr⟩
    exact ⟨x, y, by omega, by omega, hr⟩

theorem two_hit {ms : Nat → MsgV} {k y0 : Nat} (hy0 : y0 < k) (hp : OfPlace (ms y0) (ms k).h (ms k).r (ms k).f) (hne : ms y0 ≠ ms k) : Two ms (k + 1) (ms k).f :=
  ⟨k, y0, by omega, by omega, rfl, hp.1.symm, hp.2.1.symm, hp.2.2.symm, fun e => hne e.symm⟩

theorem two_other {ms : Nat → MsgV} {k : Nat} {id : Int} (h : (ms k).f ≠ id) : Two ms (k + 1) id ↔ Two ms k id := by
  constructor
  · rintro ⟨x, y, hx, hy, h1, h2, h3, h4, h5⟩
    have ex : x ≠ k := fun e => by subst e; exact h h1
    have ey : y ≠ k := fun e => by subst e; exact h (by rw [← h4]; exact h1)
    exact ⟨x, y, by omega, by omega, h1, h2, h3, h4, h5⟩
  · rintro ⟨x, y, hx, hy, hr⟩
    exact ⟨x, y, by omega, by omega, hr⟩

theorem two_bad {sg : Nat → List ByteArray} {n : Nat} {fr : Nat → ByteArray} {m id : Nat} : Two (fun i => (votesL sg n fr m).getD i msg0) (votesL sg n fr m).length id ↔ BadTo sg n id fr m 0 := by
  have get : ∀ x, x < (votesL sg n fr m).length → (votesL sg n fr m).getD x msg0 ∈ votesL sg n fr m := fun x hx => by
    rw [List.getD_eq_getElem?_getD, List.getElem?_eq_getElem hx]
    exact List.getElem_mem hx
  have put : ∀ a, a ∈ votesL sg n fr m → ∃ x, x < (votesL sg n fr m).length ∧ (votesL sg n fr m).getD x msg0 = a := fun a ha => by
    obtain ⟨x, hx, e⟩ := List.getElem_of_mem ha
    exact ⟨x, hx, by rw [List.getD_eq_getElem?_getD, List.getElem?_eq_getElem hx]; exact e⟩
  constructor
  · rintro ⟨x, y, hx, hy, h1, h2, h3, h4, h5⟩
    obtain ⟨i, hi, vi, ei⟩ := votesL_mem.1 (get x hx)
    obtain ⟨j, hj, vj, ej⟩ := votesL_mem.1 (get y hy)
    simp only [ei, ej] at h1 h2 h3 h4 h5
    unfold voteB at vi vj
    simp only [Bool.and_eq_true, decide_eq_true_eq] at vi vj
    obtain ⟨⟨oi, si⟩, ki⟩ := vi
    obtain ⟨⟨oj, sj⟩, kj⟩ := vj
    have hne : fr i ≠ fr j := fun e => h5 (by rw [e])
    rw [h1] at si
    rw [← h4, h1] at sj
    by_cases hij : j < i
    · exact ⟨i, j, hij, Or.inl hi, oi, oj, h1, by rw [← h4]; exact h1, ki, kj, h2, h3, si, sj, hne⟩
    · have hji : i < j := by
        have : i ≠ j := fun e => hne (by rw [e])
        omega
      exact ⟨j, i, hji, Or.inl hj, oj, oi, by rw [← h4]; exact h1, h1, kj, ki, h2.symm, h3.symm, sj, si, fun e => hne e.symm⟩
  · rintro ⟨i, j, hji, hi, oi, oj, fi, fj, ki, kj, hh, hr, si, sj, hne⟩
    have vi : voteB sg n (fr i) = true := by unfold voteB; rw [oi, fi, si, ki]; rfl
    have vj : voteB sg n (fr j) = true := by unfold voteB; rw [oj, fj, sj, kj]; rfl
    obtain ⟨x, hx, ex⟩ := put _ (votesL_mem.2 ⟨i, by omega, vi, rfl⟩)
    obtain ⟨y, hy, ey⟩ := put _ (votesL_mem.2 ⟨j, by omega, vj, rfl⟩)
    refine ⟨x, y, hx, hy, ?_⟩
    simp only [ex, ey]
    exact ⟨fi, hh, hr, by rw [fi, fj], fun e => hne (decV_inj oi oj e)⟩

end Go.Proofs.YtcfjhbcpjpgodaaDoor
