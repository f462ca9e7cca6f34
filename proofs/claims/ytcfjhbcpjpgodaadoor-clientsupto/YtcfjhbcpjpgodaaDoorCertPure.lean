/- Proved here: plain facts on certificates: the power of different senders, added up by messages or by ids; a certificate's height. -/
import Derived.Test.YtcfjhbcpjpgodaaDoorIsDecided
namespace Go.Proofs.YtcfjhbcpjpgodaaDoor
open Go.RowKit

/-- The power of the senders of the first k messages, each as often as it stands there. -/
def powS (x : Nat → Int) (ms : Nat → MsgV) : Nat → Int
  | 0 => 0
  | k + 1 => powS x ms k + x (ms k).f.toNat

theorem powB_yes (x : Nat → Int) (b : Nat → Bool) (f : Nat) (hb : b f = false) : ∀ k, powB x (yesB b f) k = powB x b k + if f < k then x f else 0
  | 0 => by simp [powB]
  | k + 1 => by
    have ih := powB_yes x b f hb k
    simp only [powB]
    rw [ih]
    by_cases e : k = f
    · subst e
      have h1 : yesB b k k = true := if_pos rfl
      rw [h1, hb]
      simp
    · have h1 : yesB b f k = b k := if_neg e
      rw [h1]
      by_cases h2 : f < k
      · have h3 : f < k + 1 := by omega
        simp only [h2, h3, if_true]
        omega
      · have h3 : ¬ f < k + 1 := by omega
        simp only [h2, h3, if_false]
        omega

theorem CertTo.unique {ms : Nat → MsgV} {h : Int} {block : ByteArray} {k : Nat} {b b' : Nat → Bool} (hc : CertTo ms h block k b) (hm : CertTo ms h block k b') : ∀ i, i < 8 → b i = b' i := fun i hi => by
  have h1 := hc.who i hi
  have h2 := hm.who i hi
  rw [← h2] at h1
  cases ha : b i <;> cases hb : b' i <;> simp_all

theorem CertTo.power {ms : Nat → MsgV} {h : Int} {block : ByteArray} (x : Nat → Int) : ∀ {k : Nat} {b : Nat → Bool}, CertTo ms h block k b → (∀ i, i < k → 0 ≤ (ms i).f ∧ (ms i).f < 8) → powS x ms k = powB x b 8
  | 0, b, hc, _ => by
    have e : powB x b 8 = powB x (fun _ => false) 8 := powB_congr x 8 (fun i hi => by
      cases hb : b i with
      | false => rfl
      | true => obtain ⟨j, hj, _⟩ := (hc.who i hi).1 hb; omega)
    rw [e]
    simp [powS, powB]
  | k + 1, b, hc, hf => by
    obtain ⟨f, hfe⟩ : ∃ f : Nat, (ms k).f = (f : Int) := ⟨(ms k).f.toNat, by have := hf k (by omega); omega⟩
    have hf8 : f < 8 := by have := hf k (by omega); omega
    have hk : CertTo ms h block k (fun i => if i = f then false else b i) := by
      refine ⟨fun i hi => hc.want i (by omega), fun i j hij hj => hc.apart i j hij (by omega), fun id hid => ?_⟩
      by_cases e : id = f
      · subst e
        rw [if_pos rfl]
        constructor
        · intro h; cases h
        · rintro ⟨i, hi, h1⟩
          exact absurd (h1.trans hfe.symm) (hc.apart i k hi (by omega))
      · rw [if_neg e, hc.who id hid]
        constructor
        · rintro ⟨i, hi, h1⟩
          refine ⟨i, ?_, h1⟩
          have : i ≠ k := fun e2 => by subst e2; rw [hfe] at h1; omega
          omega
        · rintro ⟨i, hi, h1⟩; exact ⟨i, by omega, h1⟩
    have e1 : powB x b 8 = powB x (yesB (fun i => if i = f then false else b i) f) 8 := powB_congr x 8 (fun i hi => by
      unfold yesB
      split
      · rename_i e
        rw [e]
        exact (hc.who f hf8).2 ⟨k, by omega, hfe⟩
      · rename_i e
        exact (if_neg e).symm)
    have ih := CertTo.power x hk (fun i hi => hf i (by omega))
    rw [e1, powB_yes x _ f (if_pos rfl), if_pos hf8, ← ih]
    show powS x ms k + x (ms k).f.toNat = _
    rw [hfe, Int.toNat_natCast]

theorem certOk_height {x : Nat → Int} {h : Int} {block : ByteArray} {ms : Nat → MsgV} {m : Nat} (hc : CertOk x h block ms m) (hh : ∀ i, i < m → (ms i).h < 12) (ht : 0 < sumTo x 8) : h < 12 := by
  obtain ⟨b, hct, hm⟩ := hc
  by_cases h0 : m = 0
  · exfalso
    subst h0
    have e : powB x b 8 = powB x (fun _ => false) 8 := powB_congr x 8 (fun i hi => by
      cases hb : b i with
      | false => rfl
      | true => obtain ⟨j, hj, _⟩ := (hct.who i hi).1 hb; omega)
    have h2 := of_decide_eq_true hm
    rw [e] at h2
    simp [powB] at h2
    omega
  · have h1 := hct.want 0 (by omega)
    have h2 := hh 0 (by omega)
    rw [h1] at h2
    exact h2

end Go.Proofs.YtcfjhbcpjpgodaaDoor
