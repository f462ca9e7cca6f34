/- Proved here: pick of synodkeep tells a number below n. · Proved here: what powers and weigh of synodkeep tell; the bits of a number. -/
import Derived.Test.YtcfjhbcpjpgodaaGreatDoorBase
import Derived.Test.YtcfjhbcpjpgodaaGreatDoorJ10
import Derived.Test.YtcfjhbcpjpgodaaGreatDoorJ11
import Derived.Maps.AppendAt
namespace Go.Proofs.YtcfjhbcpjpgodaaGreatDoor
open Go.RowKit

theorem keepPick_any (c : Int) (n : Nat) (w : World) (h1 : -9223372036854775808 ≤ c) (h2 : c ≤ 9223372036854775807) (hn : 1 ≤ n) (hn2 : n ≤ 1000000000) :
    Calls Tryz.prog 26 #[.int .i64 c, .int .i64 (n : Int)] w fun e w' => (∃ r : Nat, r < n ∧ e = .returned (.int .i64 (r : Int))) ∧ w' = w := by
  have hz : ((n : Int) == 0) = false := by simp; omega
  have hz2 : ¬ (n : Int) = 0 := by omega
  by_cases hc : c < 0
  · obtain ⟨d, hd⟩ : ∃ d : Int, d = -(c + 1) := ⟨_, rfl⟩
    have hd0 : 0 ≤ d := by omega
    have hd1 : d ≤ 9223372036854775807 := by omega
    obtain ⟨r, hr⟩ : ∃ r : Nat, (r : Int) = d.tmod n := ⟨(d.tmod n).toNat, by rw [Int.toNat_of_nonneg (Int.tmod_nonneg _ hd0)]⟩
    have hrn : r < n := by have := Int.tmod_lt_of_pos d (show (0 : Int) < n by omega); omega
    have HR := hide hr
    have HD := hide hd
    have HN := hide hrn
    clear hr hrn
    go_enter Tryz.func26, Tryz.ntmps26
    go_wp2
    go_ret
    refine ⟨⟨r, HN.out, ?_⟩, rfl⟩
    show Ending.returned (Value.int .i64 (-(c + 1).tmod (n : Int))) = _
    rw [HR.out, HD.out, Int.neg_tmod]

  · obtain ⟨r, hr⟩ : ∃ r : Nat, (r : Int) = c.tmod n := ⟨(c.tmod n).toNat, by rw [Int.toNat_of_nonneg (Int.tmod_nonneg _ (by omega))]⟩
    have hrn : r < n := by have := Int.tmod_lt_of_pos c (show (0 : Int) < n by omega); omega
    have HR := hide hr
    have HN := hide hrn
    clear hr hrn
    go_enter Tryz.func26, Tryz.ntmps26
    go_wp2
    go_ret
    refine ⟨⟨r, HN.out, ?_⟩, rfl⟩
    show Ending.returned (Value.int .i64 (c % (n : Int))) = _
    rw [HR.out, Int.tmod_eq_emod_of_nonneg (by omega)]

end Go.Proofs.YtcfjhbcpjpgodaaGreatDoor
namespace Go.Proofs.YtcfjhbcpjpgodaaGreatDoor
open Go.RowKit

/-- The j-th bit of a number, as Go reckons it. -/
def bitI (z : Int) (j : Nat) : Int := bits .and .i64 (z / 2 ^ j) 1

theorem bits_one (e : Int) : bits .and .i64 e 1 = e % 2 := by
  unfold bits
  simp only
  have h1 : (BitVec.ofInt IntKind.i64.bits e &&& BitVec.ofInt IntKind.i64.bits 1).toNat = (e % 2).toNat := by
    show (BitVec.ofInt 64 e &&& 1#64).toNat = _
    rw [BitVec.toNat_and, show (1#64).toNat = 1 from rfl, Nat.and_one_is_mod, BitVec.toNat_ofInt]
    omega
  rw [h1]
  have h2 : 0 ≤ e % 2 ∧ e % 2 < 2 := by omega
  unfold IntKind.wrap IntKind.bits IntKind.signed
  simp
  omega

theorem par_mod (z : Int) (j : Nat) (hj : j < 8) : (z / 2 ^ j) % 2 = ((z % 18446744073709551616) / 2 ^ j) % 2 := by
  match j, hj with
  | 0, _ => simp <;> omega
  | 1, _ => simp <;> omega
  | 2, _ => simp <;> omega
  | 3, _ => simp <;> omega
  | 4, _ => simp <;> omega
  | 5, _ => simp <;> omega
  | 6, _ => simp <;> omega
  | 7, _ => simp <;> omega

theorem bitI_nat (z : Int) (j : Nat) (hj : j < 8) : bitI z j = 1 ↔ ((z % 18446744073709551616).toNat).testBit j = true := by
  unfold bitI
  rw [bits_one, par_mod z j hj, Nat.testBit_eq_decide_div_mod_eq, decide_eq_true_eq]
  have h0 : 0 ≤ z % 18446744073709551616 := by omega
  obtain ⟨m, hm⟩ : ∃ m : Nat, z % 18446744073709551616 = (m : Int) := ⟨(z % 18446744073709551616).toNat, by omega⟩
  rw [hm, Int.toNat_natCast]
  constructor
  · intro h; exact_mod_cast h
  · intro h; exact_mod_cast h

theorem bitI_and (x y : Int) (j : Nat) (hj : j < 8) : bitI (bits .and .i64 x y) j = 1 ↔ bitI x j = 1 ∧ bitI y j = 1 := by
  rw [bitI_nat _ j hj, bitI_nat x j hj, bitI_nat y j hj]
  have h1 : ((bits .and .i64 x y) % 18446744073709551616).toNat = (x % 18446744073709551616).toNat &&& (y % 18446744073709551616).toNat := by
    have h2 : ((BitVec.ofInt 64 x &&& BitVec.ofInt 64 y).toNat : Nat) = (x % 18446744073709551616).toNat &&& (y % 18446744073709551616).toNat := by
      rw [BitVec.toNat_and, BitVec.toNat_ofInt, BitVec.toNat_ofInt]
      rfl
    have h3 : (BitVec.ofInt 64 x &&& BitVec.ofInt 64 y).toNat < 18446744073709551616 := (BitVec.ofInt 64 x &&& BitVec.ofInt 64 y).isLt
    rw [← h2]
    show ((IntKind.i64.wrap ((BitVec.ofInt 64 x &&& BitVec.ofInt 64 y).toNat : Int)) % 18446744073709551616).toNat = _
    generalize (BitVec.ofInt 64 x &&& BitVec.ofInt 64 y).toNat = q at h3
    unfold IntKind.wrap IntKind.bits IntKind.signed
    simp
    omega
  rw [h1, Nat.testBit_and, Bool.and_eq_true]

/-- The power of some, of the first k. -/
def weighF (g : Nat → Int) (who : Int) : Nat → Int
  | 0 => 0
  | k + 1 => weighF g who k + if bitI who k = 1 then g k else 0
theorem weighF_bound (g : Nat → Int) (who : Int) : ∀ k, (∀ i, i < k → 1 ≤ g i ∧ g i ≤ 3) → 0 ≤ weighF g who k ∧ weighF g who k ≤ 3 * k
  | 0, _ => by simp [weighF]
  | k + 1, h => by
    have ih := weighF_bound g who k (fun i hi => h i (by omega))
    have := h k (by omega)
    unfold weighF
    split <;> omega

set_option maxRecDepth 100000 in
set_option maxHeartbeats 1600000 in
theorem weigh_any (g : Nat → Int) (p : Option Addr) (n cap : Nat) (who : Int) (w : World) (hl : Lies w w.heap.size p n (fun i => .int .i64 (g i))) (hn : n ≤ 8) (hg : ∀ i, i < n → 1 ≤ g i ∧ g i ≤ 3) :
    Calls Tryz.prog 49 #[.slice p n cap, .int .i64 who] w fun e w' => e = .returned (.int .i64 (weighF g who n)) ∧ w' = w := by
  have HL := hide hl
  have HG := hide hg
  clear hl hg
  go_enter Tryz.func49, Tryz.ntmps49
  go_wp2
  go_loop [5, 6] (fun v i => ∃ j : Nat, j ≤ n ∧ i = .int .i64 j ∧ v = .int .i64 (weighF g who j)) (fun _ i => n - (intOf i).toNat)
  case atStart => exact ⟨0, Nat.zero_le _, rfl, rfl⟩
  case round =>
    obtain ⟨j, hj, rfl, rfl⟩ := hrel
    by_cases hend : j = n
    · subst hend
      go_wp2
      go_ret
      exact ⟨rfl, rfl⟩
    · have hlt2 : (j : Int) < n := by omega
      have hj8 : (j : Int) < 8 := by omega
      have hnn : (n : Int) ≤ 8 := by omega
      obtain ⟨b, o, rfl, -, hc⟩ := HL.out j (by omega)
      obtain ⟨gj, hgj⟩ : ∃ z, z = g j := ⟨_, rfl⟩
      have hcj : w.cell? ⟨b, o + j, none⟩ = some (.int .i64 gj) := by rw [hgj]; exact hc
      have hgb : 1 ≤ gj ∧ gj ≤ 3 := by rw [hgj]; exact HG.out j (by omega)
      obtain ⟨hg1, hg3⟩ := hgb
      obtain ⟨s0, hs0⟩ : ∃ z, z = weighF g who j := ⟨_, rfl⟩
      have hsb : 0 ≤ s0 ∧ s0 ≤ 3 * j := by rw [hs0]; exact weighF_bound g who j (fun i hi => HG.out i (by omega))
      obtain ⟨hs1, hs2⟩ := hsb
      rw [← hs0]
      by_cases hb : bits .and .i64 (who / 2 ^ j) 1 = 1
      · have HS : Hid (weighF g who (j + 1) = s0 + gj) := by
          unfold Hid weighF bitI
          rw [← hs0, ← hgj, if_pos hb]
        clear hend hc hgj hs0
        go_wp2
        go_round
        case rel => exact ⟨j + 1, by omega, by go_num, by rw [HS.out]⟩
        case measure => simp [intOf]; omega
      · have HS : Hid (weighF g who (j + 1) = s0) := by
          unfold Hid weighF bitI
          rw [← hs0, if_neg hb]
          omega
        have hb2 : (bits .and .i64 (who / 2 ^ j) 1 == 1) = false := by rw [beq_eq_false_iff_ne]; exact hb
        clear hend hc hgj hs0
        go_wp2
        go_round
        case rel => exact ⟨j + 1, by omega, by go_num, by rw [HS.out]⟩
        case measure => simp [intOf]; omega

/-- A row of numbers that is owned. -/
theorem own_numsK {w : World} {base n : Nat} {v : Value} {g : Nat → Int} (h : w.ownsRow base 3 1 v n ((List.range n).map fun i => .int .i64 (g i))) : ∃ p c, v = .slice p n c ∧ Lies w w.heap.size p n (fun i => .int .i64 (g i)) := by
  rcases h.2 with ⟨rfl, hn⟩ | ⟨gb, cap, cur, rfl, hb, hg, hnc, hcm, hcs, ht⟩
  · exact ⟨none, 0, by rw [hn], fun i hi => by omega⟩
  · refine ⟨_, cap, rfl, fun i hi => ⟨gb, 0, rfl, row_lt0 hg, ?_⟩⟩
    rw [cell_of_row w gb _ _ _ _ hg, Nat.zero_add]
    have e1 : (cur.toList.take (n * 1))[i]? = ((List.range n).map fun i => Value.int .i64 (g i))[i]? := by rw [ht]
    rw [List.getElem?_take, if_pos (by omega)] at e1
    rw [← Array.getElem?_toList, e1]
    simp [hi]

set_option maxRecDepth 100000 in
set_option maxHeartbeats 3200000 in
theorem powers_any (raw : Nat → Int) (p : Option Addr) (q cap n : Nat) (w : World) (hl : Lies w w.heap.size p q (fun i => .int .i64 (raw i))) (hq : q ≤ maxLen) (hr : ∀ i, i < q → -9223372036854775808 ≤ raw i ∧ raw i ≤ 9223372036854775807) (hn : n ≤ 8) :
    Calls Tryz.prog 25 #[.slice p q cap, .int .i64 (n : Int)] w fun e w' => ∃ (v : Value) (g : Nat → Int), e = .returned v ∧ w'.ownsRow w.heap.size 3 1 v n ((List.range n).map fun i => .int .i64 (g i)) ∧ (∀ i, i < n → 1 ≤ g i ∧ g i ≤ 3) ∧ Below w.heap.size w w' := by
  obtain ⟨iI, hiI, hz0, hz1, hz2⟩ := info_parts Tryz.infoInt
  have HL := hide hl
  have HR := hide hr
  have hmx : (q : Int) ≤ 9223372036854775807 := by unfold maxLen at hq; omega
  have hn8 : (n : Int) ≤ 8 := by omega
  clear hl hr hq
  go_enter Tryz.func25, Tryz.ntmps25
  go_wp2
  go_loopw [5, 6, 7] (fun v i _ wr => ∃ (j : Nat) (g : Nat → Int), j ≤ n ∧ i = .int .i64 j ∧ wr.ownsRow w.heap.size 3 1 v j ((List.range j).map fun i => .int .i64 (g i)) ∧ (∀ i, i < j → 1 ≤ g i ∧ g i ≤ 3) ∧ Below w.heap.size w wr) (fun _ i _ _ => n - (intOf i).toNat)
  case atStart => exact ⟨0, fun _ => 0, Nat.zero_le _, rfl, World.ownsRow_nil _ _ _ _, fun i hi => absurd hi (Nat.not_lt_zero i), Below.refl _ _⟩
  case round =>
    obtain ⟨j, g, hj, rfl, hv, hgb, hb⟩ := hrel
    have HB := hide hb
    have HV := hide hv
    have HGB := hide hgb
    clear hb hv hgb
    by_cases hend : j = n
    · subst hend
      go_wp2
      go_ret
      exact ⟨_, g, rfl, HV.out, HGB.out, HB.out⟩
    · have hlt2 : (j : Int) < n := by omega
      clear hend
      have fin : ∀ (x : Int) (v' : Value) (wr' : World), 1 ≤ x → x ≤ 3 → wr'.ownsRow w.heap.size 3 1 v' (j + 1) (((List.range j).map fun i => Value.int .i64 (g i)) ++ [.int .i64 x]) → Below w.heap.size w wr' →
          ∃ (j' : Nat) (g' : Nat → Int), j' ≤ n ∧ (Value.int .i64 ((j : Int) + 1)) = .int .i64 j' ∧ wr'.ownsRow w.heap.size 3 1 v' j' ((List.range j').map fun i => .int .i64 (g' i)) ∧ (∀ i, i < j' → 1 ≤ g' i ∧ g' i ≤ 3) ∧ Below w.heap.size w wr' := fun x v' wr' h1 h3 ho hbb => by
        refine ⟨j + 1, fun i => if i = j then x else g i, by omega, by go_num, ?_, fun i hi => ?_, hbb⟩
        · have e : (List.range (j + 1)).map (fun i => Value.int .i64 (if i = j then x else g i)) = ((List.range j).map fun i => Value.int .i64 (g i)) ++ [.int .i64 x] := by
            rw [List.range_succ, List.map_append]
            congr 1
            · apply List.map_congr_left
              intro i hi
              rw [List.mem_range] at hi
              rw [if_neg (by omega)]
            · simp
          rw [e]
          exact ho
        · simp only
          split
          · exact ⟨h1, h3⟩
          · exact HGB.out i (by omega)
      have FIN := hide fin
      clear fin
      by_cases hjq : j < q
      · have hjq2 : (j : Int) < q := by omega
        obtain ⟨b, o, rfl, -, hc⟩ := HL.out.below HB.out j hjq
        obtain ⟨x, hx⟩ : ∃ z, z = raw j := ⟨_, rfl⟩
        have hcj : wr.cell? ⟨b, o + j, none⟩ = some (.int .i64 x) := by rw [hx]; exact hc
        have hxb := HR.out j hjq
        rw [← hx] at hxb
        have HPK := hide (keepPick_any x 3 wr hxb.1 hxb.2 (by omega) (by omega))
        clear hc hx hxb
        go_wp2_with fail
        refine HPK.out.mono ?_
        rintro e w2 ⟨⟨r, hr3, rfl⟩, hw2⟩
        have hw3 := hw2.symm
        clear hw2
        subst hw3
        have hr3i : (r : Int) < 3 := by omega
        go_wp2_with (first | (at_builtin; refine wpList_append_own _ rfl _ _ 22 rfl w.heap.size 3 iI (.int .i64 0) 1 8 Tryz.underlying22 hiI hz0 hz1 hz2 rfl (by decide) _ _ _ rfl (HV.out.alloc _) ⟨wr.heap.size, 0, none⟩ 1 1 [.int .i64 (1 + (r : Int))] rfl rfl ?c1 ?c2 ?c3 ?c4 ?c5 ?_) | go_in)
        case c1 =>
          intro j u hj
          match j, hj with
          | 0, hj => simp at hj; subst hj; simp [Addr.add]
        case c2 => first | rfl | (intro u hu; simp at hu; subst hu; rfl)
        case c3 => unfold maxLen; omega
        case c4 => omega
        case c5 => have := HB.out.size; first | omega | (simp; omega)
        intro rv' w7 hown7 hgrow7 _
        obtain ⟨rp, rc, rfl⟩ := own_slice hown7
        have HOR7 := hide hown7
        have HB7 : Hid (Below w.heap.size w w7) := (HB.out.alloc HB.out.size _).grown hgrow7 (by have := HB.out.size; simp; omega) (fun j hj => (HV.out.lt j hj).1)
        clear hown7 hgrow7
        go_wp2
        go_roundw
        case rel => exact FIN.out (1 + (r : Int)) _ _ (by omega) (by omega) HOR7.out HB7.out
        case measure => simp [intOf]; omega
      · have hjq2 : ¬ (j : Int) < q := by omega
        go_wp2_with (first | (at_builtin; refine wpList_append_own _ rfl _ _ 22 rfl w.heap.size 3 iI (.int .i64 0) 1 8 Tryz.underlying22 hiI hz0 hz1 hz2 rfl (by decide) _ _ _ rfl (HV.out.alloc _) ⟨wr.heap.size, 0, none⟩ 1 1 [.int .i64 (1)] rfl rfl ?c1 ?c2 ?c3 ?c4 ?c5 ?_) | go_in)
        case c2 => first | rfl | (intro u hu; simp at hu; subst hu; rfl)
        case c3 => unfold maxLen; omega
        case c4 => omega
        case c5 => have := HB.out.size; first | omega | (simp; omega)
        intro rv' w7 hown7 hgrow7 _
        obtain ⟨rp, rc, rfl⟩ := own_slice hown7
        have HOR7 := hide hown7
        have HB7 : Hid (Below w.heap.size w w7) := (HB.out.alloc HB.out.size _).grown hgrow7 (by have := HB.out.size; simp; omega) (fun j hj => (HV.out.lt j hj).1)
        clear hown7 hgrow7
        go_wp2
        go_roundw
        case rel => exact FIN.out (1) _ _ (by omega) (by omega) HOR7.out HB7.out
        case measure => simp [intOf]; omega

end Go.Proofs.YtcfjhbcpjpgodaaGreatDoor
