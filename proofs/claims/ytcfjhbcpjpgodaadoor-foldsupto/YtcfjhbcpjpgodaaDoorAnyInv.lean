/- Proved here: a region that draws its order, by an invariant over what has come up so far: one proof an operation, whatever the number of orders. Nothing here speaks of a program. -/
import Derived.Deep.RegionHeld
namespace Go.Proofs.YtcfjhbcpjpgodaaDoor

/-- How many of the first n have not come up. -/
def leftN (l : Nat → Bool) : Nat → Nat
  | 0 => 0
  | n + 1 => leftN l n + if l n then 0 else 1

/-- One more has come up. -/
def came (l : Nat → Bool) (i : Nat) : Nat → Bool := fun j => if j = i then true else l j

theorem leftN_same (l l' : Nat → Bool) (n : Nat) (h : ∀ j, j < n → l j = l' j) : leftN l n = leftN l' n := by
  induction n with
  | zero => rfl
  | succ n ih => simp only [leftN]; rw [ih (fun j hj => h j (by omega)), h n (by omega)]

theorem leftN_came (l : Nat → Bool) (i n : Nat) (hi : i < n) (h : l i = false) : leftN (came l i) n + 1 = leftN l n := by
  induction n with
  | zero => omega
  | succ n ih =>
    simp only [leftN]
    by_cases e : i = n
    · subst e
      rw [leftN_same (came l i) l i (fun j hj => by simp [came]; omega)]
      simp [came, h]
    · have := ih (by omega)
      have e2 : came l i n = l n := by simp only [came]; rw [if_neg (fun h => e h.symm)]
      rw [e2]
      omega

theorem leftN_zero (l : Nat → Bool) (n : Nat) (h : leftN l n = 0) : ∀ i, i < n → l i = true := by
  induction n with
  | zero => intro i hi; omega
  | succ n ih =>
    simp only [leftN] at h
    intro i hi
    by_cases e : i = n
    · subst e
      cases hl : l i with
      | true => rfl
      | false => simp [hl] at h
    · exact ih (by omega) i (by omega)

section
variable {P : Program} {ops : Array Oper} {Q : Exit → Act → World → Prop} {md : Region.Mode}

/-- What has come up, by number. -/
def upTo (listed : Array Bool) : Nat → Bool := fun i => listed.getD i true

theorem upTo_set (listed : Array Bool) (i : Nat) : upTo (listed.setIfInBounds i true) = came (upTo listed) i := by
  funext j
  unfold upTo came
  by_cases h : j = i
  · subst h
    rw [if_pos rfl]
    by_cases hlt : j < listed.size
    · simp [hlt]
    · simp only [Array.getD_eq_getD_getElem?]
      rw [Array.getElem?_eq_none (by simp; omega)]
      rfl
  · rw [if_neg h, getD_set_ne true (fun e => h e.symm)]

theorem listed_of_upTo (listed : Array Bool) (j : Nat) (hj : j < listed.size) : listed.getD j false = upTo listed j := by
  unfold upTo
  simp [hj]

/-- Every edge goes back. -/
def goesBack (ops : Array Oper) : Bool := (List.range ops.size).all fun i => ((ops[i]?).map fun o => o.after.all fun e => decide (e.on < i)).getD true

theorem goesBack_lt (h : goesBack ops = true) {i : Nat} {o : Oper} (ho : ops[i]? = some o) : ∀ e ∈ o.after, e.on < i := by
  have hi : i < ops.size := (Array.getElem?_eq_some_iff.1 ho).1
  have := List.all_eq_true.1 h i (List.mem_range.2 hi)
  rw [ho] at this
  simp only [Option.map_some, Option.getD_some, Array.all_eq_true_iff_forall_mem] at this
  exact fun e he => of_decide_eq_true (this e he)

theorem ready_nil_all (hb : goesBack ops = true) (listed : Array Bool) (hs : listed.size = ops.size) (h : Region.ready md ops listed = []) : ∀ i, i < ops.size → upTo listed i = true := by
  intro i
  induction i using Nat.strongRecOn with
  | ind i ih =>
    intro hi
    cases hl : upTo listed i with
    | true => rfl
    | false =>
      have : i ∈ Region.ready md ops listed := mem_ready.2 ⟨hl, ops[i], Array.getElem?_eq_getElem hi, fun e he _ => by
        have hlt := goesBack_lt hb (Array.getElem?_eq_getElem hi) e he
        rw [listed_of_upTo listed e.on (by omega)]
        exact ih e.on hlt (by omega)⟩
      rw [h] at this
      cases this

/-- **The invariant's law.** -/
theorem wpAnyH_inv (hb : goesBack ops = true) (I : (Nat → Bool) → Act → World → Prop)
    (hstep : ∀ (l : Nat → Bool) (a : Act) (w : World) (i : Nat) (o : Oper), I l a w → l i = false → ops[i]? = some o → (∀ e ∈ o.after, Region.binds md e = true → l e.on = true) →
      ∀ K' : Act → World → Prop, Shut (∀ a' w', I (came l i) a' w' → K' a' w') → if Region.wanted o (yielded ops a.tmps) = true then Oper.wp P o a w K' Q else K' (a.put o.dst undef) w)
    (hend : ∀ (l : Nat → Bool) (a : Act) (w : World), I l a w → (∀ i, i < ops.size → l i = true) → Q .normal a w) :
    ∀ (fuel : Nat) (listed : Array Bool) (a : Act) (w : World), listed.size = ops.size → leftN (upTo listed) ops.size ≤ fuel → I (upTo listed) a w → wpAnyH P md ops Q (fun _ => True) fuel listed a w := by
  intro fuel
  induction fuel with
  | zero =>
    intro listed a w hs hf hI
    have hall := leftN_zero _ _ (Nat.le_zero.1 hf)
    refine ⟨?_, hend _ a w hI hall⟩
    cases hr : Region.ready md ops listed with
    | nil => rfl
    | cons j rs =>
      have hj : j ∈ Region.ready md ops listed := by rw [hr]; simp
      obtain ⟨h0, o, ho, _⟩ := mem_ready.1 hj
      have := hall j (Array.getElem?_eq_some_iff.1 ho).1
      unfold upTo at this
      rw [h0] at this
      cases this
  | succ fuel ih =>
    intro listed a w hs hf hI
    refine ⟨fun hr => hend _ a w hI (ready_nil_all hb listed hs hr), fun i hi => ?_⟩
    obtain ⟨h0, o, ho, hall⟩ := mem_ready.1 hi
    have hlt : i < ops.size := (Array.getElem?_eq_some_iff.1 ho).1
    refine wpOp_step ho (fun K' hK => hstep (upTo listed) a w i o hI h0 ho (fun e he hbd => ?_) K' (fun a' w' hI' => hK a' w' ⟨trivial, ?_⟩))
    · have h1 := goesBack_lt hb ho e he
      rw [← listed_of_upTo listed e.on (by omega)]
      exact hall e he hbd
    · refine ih (listed.setIfInBounds i true) a' w' (by simpa using hs) ?_ (by rw [upTo_set]; exact hI')
      rw [upTo_set]
      have := leftN_came (upTo listed) i ops.size hlt h0
      omega
end

end Go.Proofs.YtcfjhbcpjpgodaaDoor
