/- Proved here: a ring in memory: who has signed what; and what Signed answers. -/
import Derived.Test.YtcfjhbcpjpgodaaDoorBase
namespace Go.Proofs.YtcfjhbcpjpgodaaDoor
open Go.RowKit

/-- A ring in block rb: n ids, what each of them has signed; F: the ring's blocks. -/
def RingI (F : Nat → Prop) (rb n : Nat) (sg : Nat → List ByteArray) (w : World) : Prop :=
  ∃ (ob cap : Nat) (cur : Array Value) (iv : Nat → Value),
    w.heap[rb]? = some (.cells #[.slice (some ⟨ob, 0, none⟩) n cap] 102 (0, 0)) ∧ w.heap[ob]? = some (.cells cur 39 (0, 0)) ∧ (∀ i, i < n → cur[i]? = some (iv i)) ∧
    (∀ i, i < n → w.ownsRow 0 9 1 (iv i) (sg i).length ((sg i).map .string)) ∧ (∀ i j, i < n → j < n → i ≠ j → ∀ g, (iv i).ownBlock = some g → (iv j).ownBlock ≠ some g) ∧
    F rb ∧ F ob ∧ ∀ i, i < n → ∀ g, (iv i).ownBlock = some g → F g

theorem RingI.frame {F : Nat → Prop} {rb n : Nat} {sg : Nat → List ByteArray} {w w' : World} (h : RingI F rb n sg w) (hb : ∀ k, F k → w'.heap[k]? = w.heap[k]?) : RingI F rb n sg w' := by
  obtain ⟨ob, cap, cur, iv, h1, h2, h3, h4, h5, h6, h7, h8⟩ := h
  exact ⟨ob, cap, cur, iv, (hb rb h6).trans h1, (hb ob h7).trans h2, h3, fun i hi => own_blocks (h4 i hi) (fun g e _ => hb g (h8 i hi g e)), h5, h6, h7, h8⟩

/-- Is the text in the list? -/
def hasT (l : List ByteArray) (t : ByteArray) : Bool := l.any fun s => s.data == t.data
theorem hasT_iff (l : List ByteArray) (t : ByteArray) : hasT l t = true ↔ t ∈ l := by
  unfold hasT
  rw [List.any_eq_true]
  constructor
  · rintro ⟨s, hs, he⟩
    have : s = t := ByteArray.ext (by simpa using he)
    rw [← this]
    exact hs
  · intro h
    exact ⟨t, h, by simp⟩
theorem hasT_yes {l : List ByteArray} {t : ByteArray} (h : t ∈ l) : hasT l t = true := (hasT_iff l t).2 h
theorem hasT_no {l : List ByteArray} {t : ByteArray} (h : t ∉ l) : hasT l t = false := by
  cases e : hasT l t with
  | false => rfl
  | true => exact absurd ((hasT_iff l t).1 e) h

/-- Has the id signed the text? -/
def signedB (sg : Nat → List ByteArray) (n : Nat) (id : Int) (t : ByteArray) : Bool := decide (0 ≤ id ∧ id < (n : Int)) && hasT (sg id.toNat) t

theorem signedB_out {sg : Nat → List ByteArray} {n : Nat} {id : Int} {t : ByteArray} (h : ¬ (0 ≤ id ∧ id < (n : Int))) : signedB sg n id t = false := by unfold signedB; rw [decide_eq_false h]; rfl
theorem signedB_in {sg : Nat → List ByteArray} {n i : Nat} {t : ByteArray} (h : i < n) : signedB sg n (i : Int) t = hasT (sg i) t := by unfold signedB; rw [decide_eq_true (by omega)]; simp

theorem text_ne {s t : ByteArray} (h : ¬ s = t) : (s.toList == t.toList) = false := by
  apply Bool.eq_false_iff.2
  intro e
  have e1 : s.toList = t.toList := by simpa using e
  rw [ByteArray.toList_eq, ByteArray.toList_eq] at e1
  exact h (ByteArray.ext (Array.ext' e1))

theorem mem_take_step (l : List ByteArray) (t : ByteArray) (k : Nat) (h : t ∉ l.take k) (hn : l.getD k ByteArray.empty ≠ t) : t ∉ l.take (k + 1) := by
  intro hm
  by_cases hk : k < l.length
  · rw [← List.take_append_getElem hk, List.mem_append] at hm
    rcases hm with hm | hm
    · exact h hm
    · rw [List.mem_singleton] at hm
      rw [List.getD_eq_getElem?_getD, List.getElem?_eq_getElem hk] at hn
      exact hn hm.symm
  · rw [List.take_of_length_le (by omega)] at hm h
    exact h hm

set_option maxRecDepth 100000 in
set_option maxHeartbeats 1600000 in
theorem signed_any (F : Nat → Prop) (rb n : Nat) (sg : Nat → List ByteArray) (id : Int) (t : ByteArray) (w : World) (h : RingI F rb n sg w) :
    Calls Tryd.prog 45 #[.pointer (some ⟨rb, 0, none⟩), .int .i64 id, .string t] w fun e w' => e = .returned (.bool (signedB sg n id t)) ∧ w' = w := by
  obtain ⟨ob, cap, cur, iv, h1, h2, h3, h4, -, -, -, -⟩ := h
  have hc0 : w.cell? ⟨rb, 0, none⟩ = some (.slice (some ⟨ob, 0, none⟩) n cap) := cell_of_row w rb 0 _ _ _ h1
  by_cases ho : 0 ≤ id ∧ id < (n : Int)
  · obtain ⟨i, rfl⟩ : ∃ i : Nat, id = (i : Int) := ⟨id.toNat, by omega⟩
    have hin : i < n := by omega
    obtain ⟨ip, ic, he, hm, hlies⟩ := own_lies (h4 i hin)
    have hc1 : w.cell? ⟨ob, i, none⟩ = some (.slice ip (sg i).length ic) := by rw [cell_of_row w ob i _ _ _ h2, h3 i hin, he]
    rw [signedB_in hin]
    obtain ⟨l, hl⟩ : ∃ l, l = sg i := ⟨_, rfl⟩
    rw [← hl] at hlies hc1 hm ⊢
    have HL := hide hlies
    have hb1 : ¬ (i : Int) < 0 := by omega
    have hb2 : ¬ (n : Int) ≤ (i : Int) := by omega
    have hb3 : (i : Int) < n := by omega
    have hmx : l.length ≤ 9223372036854775807 := by unfold maxLen at hm; omega
    clear h1 h2 h3 h4 he hlies ho hl hm
    go_enter Tryd.func45, Tryd.ntmps45
    go_wp2
    go_loop [7] (fun k => ∃ j : Nat, j ≤ l.length ∧ k = .int .i64 j ∧ t ∉ l.take j) (fun k => l.length - (intOf k).toNat)
    case atStart => exact ⟨0, by omega, rfl, by simp⟩
    case round =>
      obtain ⟨j, hj, rfl, hnot⟩ := hrel
      by_cases hend : j = l.length
      · have HF : Hid (hasT l t = false) := hasT_no (by rw [hend, List.take_length] at hnot; exact hnot)
        have hge : ¬ (j : Int) < l.length := by omega
        clear hend hnot
        go_wp2
        go_ret
        exact ⟨ret_b HF.out.symm, rfl⟩
      · have hlt : j < l.length := by omega
        have hlt2 : (j : Int) < l.length := by omega
        obtain ⟨b, o, rfl, -, hc2⟩ := HL.out j hlt
        obtain ⟨s, hs⟩ : ∃ s, s = l.getD j ByteArray.empty := ⟨_, rfl⟩
        have hc3 : w.cell? ⟨b, o + j, none⟩ = some (.string s) := by rw [hs]; exact hc2
        clear hc2
        by_cases hst : s = t
        · have HF : Hid (hasT l t = true) := hasT_yes (by rw [← hst, hs, List.getD_eq_getElem?_getD, List.getElem?_eq_getElem hlt]; exact List.getElem_mem hlt)
          subst hst
          clear hs hend hnot
          go_wp2
          go_ret
          exact ⟨ret_b HF.out.symm, rfl⟩
        · have HM := hide (mem_take_step l t j hnot (by rw [← hs]; exact hst))
          have q1 := text_ne hst
          clear hs hend hnot
          go_wp2
          go_round
          case rel => exact ⟨j + 1, by omega, by go_num, HM.out⟩
          case measure => simp [intOf]; omega
  · rw [signedB_out ho]
    by_cases hneg : id < 0
    · clear h1 h2 h3 h4 ho
      go_enter Tryd.func45, Tryd.ntmps45
      go_wp2
      go_ret
      exact ⟨rfl, rfl⟩
    · have hge : (n : Int) ≤ id := by omega
      clear h1 h2 h3 h4 ho
      go_enter Tryd.func45, Tryd.ntmps45
      go_wp2
      go_ret
      exact ⟨rfl, rfl⟩

end Go.Proofs.YtcfjhbcpjpgodaaDoor
