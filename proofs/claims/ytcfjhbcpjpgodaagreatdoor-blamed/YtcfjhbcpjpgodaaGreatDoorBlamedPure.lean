/- Proved here: plain facts on two certificates of one round for two blocks. -/
import Derived.Test.YtcfjhbcpjpgodaaGreatDoorEncDec
import Derived.Test.YtcfjhbcpjpgodaaGreatDoorJ12
import Derived.Test.YtcfjhbcpjpgodaaGreatDoorJ24
import Derived.Test.YtcfjhbcpjpgodaaGreatDoorJ14
import Derived.Test.YtcfjhbcpjpgodaaGreatDoorConcat
namespace Go.Proofs.YtcfjhbcpjpgodaaGreatDoor
open Go.RowKit

def jaT : ByteArray := ⟨#[106, 97, 49]⟩
def jbT : ByteArray := ⟨#[106, 98, 50]⟩
def onB (z : Int) (i : Nat) : Bool := decide (bitI z i = 1)
/-- The ids of some, of the first n. -/
def idsK (z : Int) (n : Nat) : List Nat := (List.range n).filter (onB z)
def vfr (t : ByteArray) (r i : Nat) : ByteArray := encS 3 0 (r : Int) (i : Int) 0 false t
def lstK (t : ByteArray) (r : Nat) (z : Int) (n : Nat) : List ByteArray := (idsK z n).map (vfr t r)

theorem idsK_step (z : Int) (n : Nat) : idsK z (n + 1) = idsK z n ++ if onB z n = true then [n] else [] := by
  unfold idsK
  rw [List.range_succ, List.filter_append]
  congr 1
  cases h : onB z n with
  | true => rw [List.filter_cons_of_pos h, if_pos rfl]; rfl
  | false => rw [List.filter_cons_of_neg (by rw [h]; exact Bool.false_ne_true), if_neg Bool.false_ne_true]; rfl
theorem lstK_yes {t : ByteArray} {r : Nat} {z : Int} {n : Nat} (h : bitI z n = 1) : lstK t r z (n + 1) = lstK t r z n ++ [vfr t r n] := by
  unfold lstK
  rw [idsK_step, if_pos (show onB z n = true from decide_eq_true h), List.map_append]
  rfl
theorem lstK_no {t : ByteArray} {r : Nat} {z : Int} {n : Nat} (h : ¬ bitI z n = 1) : lstK t r z (n + 1) = lstK t r z n := by
  unfold lstK
  rw [idsK_step, if_neg (by unfold onB; rw [decide_eq_false h]; exact Bool.false_ne_true), List.append_nil]
theorem idsK_yes {z : Int} {n : Nat} (h : bitI z n = 1) : idsK z (n + 1) = idsK z n ++ [n] := by rw [idsK_step, if_pos (show onB z n = true from decide_eq_true h)]
theorem idsK_no {z : Int} {n : Nat} (h : ¬ bitI z n = 1) : idsK z (n + 1) = idsK z n := by rw [idsK_step, if_neg (by unfold onB; rw [decide_eq_false h]; exact Bool.false_ne_true), List.append_nil]
theorem idsK_len (z : Int) (n : Nat) : (idsK z n).length ≤ n := by
  have := List.length_filter_le (onB z) (List.range n)
  unfold idsK
  simpa using this
theorem mem_idsK {z : Int} {n i : Nat} : i ∈ idsK z n ↔ i < n ∧ onB z i = true := by
  unfold idsK
  rw [List.mem_filter, List.mem_range]

theorem vfr_has {t : ByteArray} {r i : Nat} (ht : t.size ≤ 24) (hr : r ≤ 20) (hi : i < 8) : hasB 3 0 (r : Int) (i : Int) 0 false t.size = true := by
  unfold hasB
  exact decide_eq_true ⟨by omega, by omega, by omega, by omega, by omega, by omega, ht, Or.inr ⟨Or.inr rfl, rfl, Or.inl rfl⟩⟩
theorem vfr_dec {t : ByteArray} {r i : Nat} (ht : t.size ≤ 24) (hr : r ≤ 20) (hi : i < 8) : decOk (vfr t r i) = true ∧ decV (vfr t r i) = ⟨3, 0, (r : Int), (i : Int), 0, false, t⟩ := dec_enc (vfr_has ht hr hi)

theorem lstK_at {t : ByteArray} {r : Nat} {z : Int} {n k : Nat} (hk : k < (idsK z n).length) : ∃ i, i < n ∧ onB z i = true ∧ (idsK z n)[k]? = some i ∧ (lstK t r z n).getD k ByteArray.empty = vfr t r i := by
  have hm : (idsK z n)[k] ∈ idsK z n := List.getElem_mem hk
  rw [mem_idsK] at hm
  refine ⟨(idsK z n)[k], hm.1, hm.2, List.getElem?_eq_getElem hk, ?_⟩
  unfold lstK
  rw [List.getD_eq_getElem?_getD, List.getElem?_map, List.getElem?_eq_getElem hk]
  rfl
theorem lstK_len (t : ByteArray) (r : Nat) (z : Int) (n : Nat) : (lstK t r z n).length = (idsK z n).length := by unfold lstK; rw [List.length_map]

def whoB (z : Int) (n : Nat) : Nat → Bool := fun id => decide (id < n) && onB z id

theorem certK_to {t : ByteArray} {r : Nat} (z : Int) {n : Nat} (ht : t.size ≤ 24) (hr : r ≤ 20) (hn : n ≤ 8) : CertTo (fun k => decV ((lstK t r z n).getD k ByteArray.empty)) 0 t (idsK z n).length (whoB z n) := by
  have hat : ∀ k, k < (idsK z n).length → ∃ i, i < n ∧ onB z i = true ∧ (idsK z n)[k]? = some i ∧ decV ((lstK t r z n).getD k ByteArray.empty) = ⟨3, 0, (r : Int), (i : Int), 0, false, t⟩ := fun k hk => by
    obtain ⟨i, h1, h2, h3, h4⟩ := lstK_at (t := t) (r := r) hk
    exact ⟨i, h1, h2, h3, by rw [h4]; exact (vfr_dec ht hr (by omega)).2⟩
  refine ⟨fun k hk => ?_, fun a b hab hb => ?_, fun id hid => ?_⟩
  · obtain ⟨i, h1, h2, h3, h4⟩ := hat k hk
    obtain ⟨i0, g1, g2, g3, g4⟩ := hat 0 (by omega)
    simp only [h4, g4, wantM]
  · obtain ⟨i, h1, h2, h3, h4⟩ := hat a (by omega)
    obtain ⟨j, g1, g2, g3, g4⟩ := hat b hb
    simp only [h4, g4]
    intro e
    have e2 : i = j := by omega
    subst e2
    have hnd : (idsK z n).Pairwise (· ≠ ·) := List.Pairwise.filter _ List.nodup_range
    rw [List.getElem?_eq_getElem (by omega)] at h3
    rw [List.getElem?_eq_getElem hb] at g3
    have e3 : (idsK z n)[a] = (idsK z n)[b] := by rw [Option.some.inj h3, Option.some.inj g3]
    exact (List.pairwise_iff_getElem.1 hnd) a b (by omega) hb hab e3
  · constructor
    · intro h
      unfold whoB at h
      rw [Bool.and_eq_true, decide_eq_true_eq] at h
      have hm : id ∈ idsK z n := mem_idsK.2 h
      obtain ⟨k, hk, he⟩ := List.getElem_of_mem hm
      obtain ⟨i, h1, h2, h3, h4⟩ := hat k hk
      refine ⟨k, hk, ?_⟩
      simp only [h4]
      rw [List.getElem?_eq_getElem hk, he] at h3
      rw [Option.some.inj h3]
    · rintro ⟨k, hk, he⟩
      obtain ⟨i, h1, h2, h3, h4⟩ := hat k hk
      simp only [h4] at he
      have e : i = id := by omega
      subst e
      unfold whoB
      rw [decide_eq_true h1, h2]
      rfl

theorem certK {t : ByteArray} {r : Nat} {z : Int} {n : Nat} {x : Nat → Int} (ht : t.size ≤ 24) (hr : r ≤ 20) (hn : n ≤ 8) : CertOk x 0 t (fun k => decV ((lstK t r z n).getD k ByteArray.empty)) (idsK z n).length ↔ moreB 2 x (whoB z n) = true := by
  constructor
  · rintro ⟨b, hct, hm⟩
    unfold moreB at hm ⊢
    rw [powB_congr x 8 (CertTo.unique (certK_to z ht hr hn) hct)]
    exact hm
  · intro h
    exact ⟨_, certK_to z ht hr hn, h⟩

theorem powB_who (g : Nat → Int) (z : Int) (n : Nat) : ∀ k, k ≤ n → powB (regOf g n) (whoB z n) k = weighF g z k
  | 0, _ => rfl
  | k + 1, hk => by
    unfold powB weighF
    rw [powB_who g z n k (by omega)]
    have h1 : regOf g n k = g k := if_pos (by omega)
    have h2 : whoB z n k = onB z k := by unfold whoB; rw [decide_eq_true (by omega)]; rfl
    rw [h1, h2]
    unfold onB
    by_cases h : bitI z k = 1
    · rw [decide_eq_true h, if_pos h]; simp
    · rw [decide_eq_false h, if_neg h]; simp
theorem powB_whoN (g : Nat → Int) (z : Int) (n : Nat) : ∀ d, powB (regOf g n) (whoB z n) (n + d) = weighF g z n
  | 0 => powB_who g z n n (Nat.le_refl _)
  | d + 1 => by
    show powB (regOf g n) (whoB z n) ((n + d) + 1) = _
    unfold powB
    rw [powB_whoN g z n d]
    have h2 : whoB z n (n + d) = false := by unfold whoB; rw [decide_eq_false (by omega)]; rfl
    rw [h2]
    simp
theorem more_who {g : Nat → Int} {z : Int} {n : Nat} (hn : n ≤ 8) : moreB 2 (regOf g n) (whoB z n) = decide (2 * sumTo g n < 3 * weighF g z n) := by
  unfold moreB
  have h1 := powB_whoN g z n (8 - n)
  have h2 := sumTo_regOf g n (8 - n)
  rw [show n + (8 - n) = 8 by omega] at h1 h2
  rw [h1, h2]

theorem weigh_both (g : Nat → Int) (one two : Int) : ∀ n, n ≤ 8 → (∀ i, i < n → 1 ≤ g i ∧ g i ≤ 3) → weighF g one n + weighF g two n ≤ sumTo g n + weighF g (bits .and .i64 one two) n
  | 0, _, _ => by simp [weighF, sumTo]
  | n + 1, hn, hg => by
    have ih := weigh_both g one two n (by omega) (fun i hi => hg i (by omega))
    have hgn := hg n (by omega)
    have hb := bitI_and one two n (by omega)
    unfold weighF sumTo
    by_cases h1 : bitI one n = 1
    · by_cases h2 : bitI two n = 1
      · rw [if_pos h1, if_pos h2, if_pos (hb.2 ⟨h1, h2⟩)]; omega
      · rw [if_pos h1, if_neg h2, if_neg (fun h => h2 (hb.1 h).2)]; omega
    · by_cases h2 : bitI two n = 1
      · rw [if_neg h1, if_pos h2, if_neg (fun h => h1 (hb.1 h).1)]; omega
      · rw [if_neg h1, if_neg h2, if_neg (fun h => h1 (hb.1 h).1)]; omega

theorem behind_j {x : Nat → Int} {t : ByteArray} {k : Nat} {v : Int} (hc : cuts t 0 0 = [t]) (hf : formB t = true) (hz : t.size ≠ 0) (h0 : byt t 0 = 106) (h1 : byt t 1 = 97 + (k : Int)) (h2 : byt t 2 = 48 + v) (hv : v ≠ 0) (hx : x (8 + k) = 0) : (behindR x t).2 = true := by
  have hs : splitR t = ([t], true) := by
    rw [splitR_good t [t] hz hc (by simp [hf])]
    simp [votes, h0]
  unfold behindR
  rw [hs]
  have hn : (nextT x t).2 = true := by
    unfold nextT nextR
    rw [h0, h1, h2, if_neg (by decide), if_neg (by decide), if_pos rfl]
    have e : (97 + (k : Int) - 97).toNat = k := by omega
    simp only [e, hx]
    have e2 : (0 : Int) ≠ 48 + v - 48 := by omega
    simp
    omega
  unfold goOn behindL
  simp only [if_true, hn]
  rfl

theorem behind_ja {g : Nat → Int} {n : Nat} (hn : n ≤ 8) : (behindR (regOf g n) jaT).2 = true :=
  behind_j (k := 0) (v := 1) (by decide) (by decide) (by decide) (by decide) (by decide) (by decide) (by decide) (by unfold regOf; rw [if_neg (by omega)])
theorem behind_jb {g : Nat → Int} {n : Nat} (hn : n ≤ 8) : (behindR (regOf g n) jbT).2 = true :=
  behind_j (k := 1) (v := 2) (by decide) (by decide) (by decide) (by decide) (by decide) (by decide) (by decide) (by unfold regOf; rw [if_neg (by omega)])

theorem ja_jb (r i : Nat) (hr : r ≤ 20) (hi : i < 8) : vfr jaT r i ≠ vfr jbT r i := fun e => by
  have h1 := (vfr_dec (t := jaT) (by decide) hr hi).2
  have h2 := (vfr_dec (t := jbT) (by decide) hr hi).2
  rw [e, h2] at h1
  have h3 : jbT = jaT := congrArg MsgV.s h1
  exact absurd h3 (by decide)

theorem who_at {sg : Nat → List ByteArray} {n i : Nat} {t : ByteArray} (hi : i < n) (h : t ∈ sg i) : signedB sg n (i : Int) t = true := by rw [signedB_in hi]; exact hasT_yes h

/-- A frame of the two lists, one behind the other. -/
theorem glueK_at {r : Nat} {one two : Int} {n k : Nat} (hk : k < (idsK one n).length + (idsK two n).length) : ∃ i, i < n ∧
    ((onB one i = true ∧ k < (idsK one n).length ∧ glue (fun k => (lstK jaT r one n).getD k ByteArray.empty) (idsK one n).length (fun k => (lstK jbT r two n).getD k ByteArray.empty) k = vfr jaT r i) ∨
     (onB two i = true ∧ (idsK one n).length ≤ k ∧ glue (fun k => (lstK jaT r one n).getD k ByteArray.empty) (idsK one n).length (fun k => (lstK jbT r two n).getD k ByteArray.empty) k = vfr jbT r i)) := by
  unfold glue
  by_cases h : k < (idsK one n).length
  · obtain ⟨i, h1, h2, h3, h4⟩ := lstK_at (t := jaT) (r := r) h
    exact ⟨i, h1, Or.inl ⟨h2, h, by rw [if_pos h]; exact h4⟩⟩
  · obtain ⟨i, h1, h2, h3, h4⟩ := lstK_at (t := jbT) (r := r) (z := two) (n := n) (k := k - (idsK one n).length) (by omega)
    exact ⟨i, h1, Or.inr ⟨h2, by omega, by rw [if_neg h]; exact h4⟩⟩

theorem glueK_one {r : Nat} {one two : Int} {n i : Nat} (hi : i < n) (h : onB one i = true) : ∃ k, k < (idsK one n).length ∧ glue (fun k => (lstK jaT r one n).getD k ByteArray.empty) (idsK one n).length (fun k => (lstK jbT r two n).getD k ByteArray.empty) k = vfr jaT r i := by
  obtain ⟨k, hk, he⟩ := List.getElem_of_mem (mem_idsK.2 ⟨hi, h⟩ : i ∈ idsK one n)
  refine ⟨k, hk, ?_⟩
  unfold glue lstK
  rw [if_pos hk]
  show (List.map (vfr jaT r) (idsK one n)).getD k ByteArray.empty = _
  rw [List.getD_eq_getElem?_getD, List.getElem?_map, List.getElem?_eq_getElem hk, he]
  rfl
theorem glueK_two {r : Nat} {one two : Int} {n i : Nat} (hi : i < n) (h : onB two i = true) : ∃ k, (idsK one n).length ≤ k ∧ k < (idsK one n).length + (idsK two n).length ∧ glue (fun k => (lstK jaT r one n).getD k ByteArray.empty) (idsK one n).length (fun k => (lstK jbT r two n).getD k ByteArray.empty) k = vfr jbT r i := by
  obtain ⟨k, hk, he⟩ := List.getElem_of_mem (mem_idsK.2 ⟨hi, h⟩ : i ∈ idsK two n)
  refine ⟨(idsK one n).length + k, by omega, by omega, ?_⟩
  unfold glue lstK
  rw [if_neg (by omega), Nat.add_sub_cancel_left]
  show (List.map (vfr jbT r) (idsK two n)).getD k ByteArray.empty = _
  rw [List.getD_eq_getElem?_getD, List.getElem?_map, List.getElem?_eq_getElem hk, he]
  rfl

theorem badK {sg : Nat → List ByteArray} {r : Nat} {one two : Int} {n : Nat} (hr : r ≤ 20) (hn : n ≤ 8) (ha : ∀ i, i < n → onB one i = true → vfr jaT r i ∈ sg i) (hb : ∀ i, i < n → onB two i = true → vfr jbT r i ∈ sg i) (id : Nat) :
    badB sg n id (glue (fun k => (lstK jaT r one n).getD k ByteArray.empty) (idsK one n).length (fun k => (lstK jbT r two n).getD k ByteArray.empty)) ((idsK one n).length + (idsK two n).length) = true ↔ id < n ∧ onB one id = true ∧ onB two id = true := by
  have hja : jaT.size ≤ 24 := by decide
  have hjb : jbT.size ≤ 24 := by decide
  rw [badB_iff]
  constructor
  · rintro ⟨x, y, hyx, hx, hp⟩
    have hx' : x < (idsK one n).length + (idsK two n).length := by omega
    obtain ⟨i, hi, hxi⟩ := glueK_at (r := r) (one := one) (two := two) hx'
    obtain ⟨j, hj, hyj⟩ := glueK_at (r := r) (one := one) (two := two) (k := y) (n := n) (by omega)
    obtain ⟨_, _, hf1, hf2, _, _, _, _, _, _, hne⟩ := hp
    rcases hxi with ⟨o1, l1, e1⟩ | ⟨o1, l1, e1⟩ <;> rcases hyj with ⟨o2, l2, e2⟩ | ⟨o2, l2, e2⟩
    all_goals
      rw [e1] at hf1 hne
      rw [e2] at hf2 hne
    · rw [(vfr_dec hja hr (by omega)).2] at hf1 hf2
      simp only at hf1 hf2
      have ee : i = j := by omega
      rw [ee] at hne
      exact absurd rfl hne
    · rw [(vfr_dec hja hr (by omega)).2] at hf1
      rw [(vfr_dec hjb hr (by omega)).2] at hf2
      simp only at hf1 hf2
      have e3 : i = id := by omega
      have e4 : j = id := by omega
      subst e3
      subst e4
      exact ⟨hi, o1, o2⟩
    · rw [(vfr_dec hjb hr (by omega)).2] at hf1
      rw [(vfr_dec hja hr (by omega)).2] at hf2
      simp only at hf1 hf2
      have e3 : i = id := by omega
      have e4 : j = id := by omega
      subst e3
      subst e4
      exact ⟨hi, o2, o1⟩
    · rw [(vfr_dec hjb hr (by omega)).2] at hf1 hf2
      simp only at hf1 hf2
      have ee : i = j := by omega
      rw [ee] at hne
      exact absurd rfl hne
  · rintro ⟨hid, h1, h2⟩
    obtain ⟨y, hy, ey⟩ := glueK_one (r := r) (two := two) hid h1
    obtain ⟨x, hx1, hx2, ex⟩ := glueK_two (r := r) (one := one) hid h2
    refine ⟨x, y, by omega, Or.inl hx2, ?_⟩
    rw [ex, ey]
    have d1 := vfr_dec hja hr (show id < 8 by omega)
    have d2 := vfr_dec hjb hr (show id < 8 by omega)
    refine ⟨d2.1, d1.1, by rw [d2.2], by rw [d1.2], by rw [d2.2], by rw [d1.2], by rw [d2.2, d1.2], by rw [d2.2, d1.2], who_at hid (hb id hid h2), who_at hid (ha id hid h1), fun e => ja_jb r id hr (by omega) e.symm⟩

theorem blameK {sg : Nat → List ByteArray} {r : Nat} {one two : Int} {n : Nat} (hr : r ≤ 20) (hn : n ≤ 8) (ha : ∀ i, i < n → onB one i = true → vfr jaT r i ∈ sg i) (hb : ∀ i, i < n → onB two i = true → vfr jbT r i ∈ sg i) :
    blameL sg n (glue (fun k => (lstK jaT r one n).getD k ByteArray.empty) (idsK one n).length (fun k => (lstK jbT r two n).getD k ByteArray.empty)) ((idsK one n).length + (idsK two n).length) 8 = idsK (bits .and .i64 one two) n := by
  unfold blameL idsK
  have e : (List.range n).filter (onB (bits .and .i64 one two)) = (List.range 8).filter fun id => decide (id < n) && onB (bits .and .i64 one two) id := by
    have h8 : List.range 8 = List.range n ++ (List.range (8 - n)).map (n + ·) := by rw [← List.range_add]; congr 1; omega
    rw [h8, List.filter_append]
    have h1 : (List.range n).filter (fun id => decide (id < n) && onB (bits .and .i64 one two) id) = (List.range n).filter (onB (bits .and .i64 one two)) := by
      apply List.filter_congr
      intro id hid
      rw [List.mem_range] at hid
      rw [decide_eq_true hid]
      rfl
    have h2 : ((List.range (8 - n)).map (n + ·)).filter (fun id => decide (id < n) && onB (bits .and .i64 one two) id) = [] := by
      rw [List.filter_eq_nil_iff]
      intro id hid
      rw [List.mem_map] at hid
      obtain ⟨d, _, rfl⟩ := hid
      rw [decide_eq_false (by omega)]
      exact Bool.false_ne_true
    rw [h1, h2, List.append_nil]
  rw [e]
  apply List.filter_congr
  intro id hid
  rw [List.mem_range] at hid
  have h1 := badK hr hn ha hb id
  unfold idsK at h1
  rw [Bool.eq_iff_iff, h1, Bool.and_eq_true, decide_eq_true_eq]
  unfold onB
  simp only [decide_eq_true_eq]
  rw [bitI_and one two id hid]

end Go.Proofs.YtcfjhbcpjpgodaaGreatDoor
