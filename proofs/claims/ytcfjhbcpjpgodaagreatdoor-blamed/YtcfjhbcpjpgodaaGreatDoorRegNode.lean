/- Proved here: what the registry tells a node: is a text a good block, a record; an id's power; whose turn it is; the block of what waits. -/
import Derived.Test.YtcfjhbcpjpgodaaGreatDoorProgBehind
import Derived.Test.YtcfjhbcpjpgodaaGreatDoorJ11
import Derived.Stop.LaidErr
import Derived.Test.YtcfjhbcpjpgodaaGreatDoorJ16
namespace Go.Proofs.YtcfjhbcpjpgodaaGreatDoor
open Go.RowKit

theorem behindN {o : Bool} (x : Nat → Int) (s : ByteArray) (b : Addr) (m : Int) (z : Nat → Int) (w : World) (hx : Dom x) (hs : s.size < 4294967281) (hg : w.cell? ⟨11, 0, none⟩ = some (.iface 294 (.pointer (some b)))) (hm : w.cell? ⟨13, 0, none⟩ = some (.int .i64 m)) (h : (z, o) = behindR x s) :
    Calls Tryz.prog 94 #[.agg (regA x), .string s] w fun e w' => e = .returned (.tuple #[.agg (regA (if o then z else reg0)), if o then .nilIface else .iface 294 (.pointer (some b))]) ∧ Below w.heap.size w w' := by
  have h1 := behindP_any x s b m w hx hs hg hm
  rw [← h] at h1
  cases o <;> exact h1

set_option maxRecDepth 100000 in
set_option maxHeartbeats 1600000 in
theorem isGood_any (x : Nat → Int) (s : ByteArray) (b : Addr) (m : Int) (w : World) (hx : Dom x) (hs : s.size < 4294967281) (hg : w.cell? ⟨11, 0, none⟩ = some (.iface 294 (.pointer (some b)))) (hm : w.cell? ⟨13, 0, none⟩ = some (.int .i64 m)) :
    Calls Tryz.prog 152 #[.agg (regA x), .string s] w fun e w' => e = .returned (.bool (behindR x s).2) ∧ Below w.heap.size w w' := by
  have HR := hide (RegAt.alloc w 116 x)
  obtain ⟨z, hz⟩ : ∃ z, z = behindR x s := ⟨_, rfl⟩
  obtain ⟨z, o⟩ := z
  have HZ := hide hz
  have HC := hide (behindN x s b m z (w.alloc (.cells (regA x) 116)) hx hs (cell?_alloc_old _ hg) (cell?_alloc_old _ hm) hz)
  have z0 := regA_zero
  clear hx hs hg hm hz
  cases o with
  | true =>
    go_enter Tryz.func152, Tryz.ntmps152
    go_wp2_with (first | (refine wpList_load_reg rfl 116 _ rfl w.heap.size rfl 116 x _ HR.out Tryz.underlying116 rfl Tryz.sizeRegistry ?_) | fail)
    refine HC.out.mono ?_
    rintro e w2 ⟨rfl, hb2⟩
    have HB2 : Hid (Below w.heap.size w w2) := ((Below.refl _ w).alloc (Nat.le_refl _) _).trans (hb2.mono (by simp))
    clear hb2
    simp only [if_true]
    go_wp2_with (first | (refine wpList_store_reg rfl 116 _ _ rfl w2.heap.size z rfl rfl 116 (regA reg0) (heap_alloc_new w2 _) (regA_size _) Tryz.sizeRegistry ?_; intro w3 hq3 ho3; have HB3 : Hid (Below w.heap.size w w3) := (HB2.out.alloc HB2.out.size _).trans (ho3.below HB2.out.size); clear hq3 ho3) | fail)
    go_ret
    exact ⟨by rw [← HZ.out]; rfl, HB3.out⟩
  | false =>
    go_enter Tryz.func152, Tryz.ntmps152
    go_wp2_with (first | (refine wpList_load_reg rfl 116 _ rfl w.heap.size rfl 116 x _ HR.out Tryz.underlying116 rfl Tryz.sizeRegistry ?_) | fail)
    refine HC.out.mono ?_
    rintro e w2 ⟨rfl, hb2⟩
    have HB2 : Hid (Below w.heap.size w w2) := ((Below.refl _ w).alloc (Nat.le_refl _) _).trans (hb2.mono (by simp))
    clear hb2
    simp only [Bool.false_eq_true, if_false]
    go_wp2_with (first | (refine wpList_store_reg rfl 116 _ _ rfl w2.heap.size reg0 rfl rfl 116 (regA reg0) (heap_alloc_new w2 _) (regA_size _) Tryz.sizeRegistry ?_; intro w3 hq3 ho3; have HB3 : Hid (Below w.heap.size w w3) := (HB2.out.alloc HB2.out.size _).trans (ho3.below HB2.out.size); clear hq3 ho3) | fail)
    go_ret
    exact ⟨by rw [← HZ.out]; rfl, HB3.out⟩

/-- The power of an id; of none other than 0 to 7. -/
def powI (x : Nat → Int) (id : Int) : Int := if 0 ≤ id ∧ id < 8 then x id.toNat else 0

set_option maxRecDepth 100000 in
set_option maxHeartbeats 800000 in
theorem power_any (x : Nat → Int) (id : Int) (w : World) :
    Calls Tryz.prog 142 #[.agg (regA x), .int .i64 id] w fun e w' => e = .returned (.int .i64 (powI x id)) ∧ Below w.heap.size w w' := by
  have HR := hide (RegAt.alloc w 116 x)
  by_cases hn : id < 0
  · have e0 : powI x id = 0 := by unfold powI; rw [if_neg (by omega)]
    rw [e0]
    clear e0
    go_enter Tryz.func142, Tryz.ntmps142
    go_wp2
    go_ret
    exact ⟨rfl, (Below.refl _ w).alloc (Nat.le_refl _) _⟩
  · by_cases h8 : 8 ≤ id
    · have e0 : powI x id = 0 := by unfold powI; rw [if_neg (by omega)]
      rw [e0]
      clear e0
      go_enter Tryz.func142, Tryz.ntmps142
      go_wp2
      go_ret
      exact ⟨rfl, (Below.refl _ w).alloc (Nat.le_refl _) _⟩
    · obtain ⟨i, rfl⟩ : ∃ i : Nat, id = (i : Int) := ⟨id.toNat, by omega⟩
      have e0 : powI x (i : Int) = x i := by unfold powI; rw [if_pos (by omega)]; rfl
      rw [e0]
      clear e0
      have hi8 : i < 8 := by omega
      have hi82 : (i : Int) < 8 := by omega
      have hc := HR.out.cell i (by omega)
      go_enter Tryz.func142, Tryz.ntmps142
      go_wp2
      go_ret
      exact ⟨rfl, (Below.refl _ w).alloc (Nat.le_refl _) _⟩

/-- Those with power, in rising order, up to k; whose turn it is. -/
def idsTo (x : Nat → Int) (k : Nat) : List Nat := (List.range k).filter fun i => decide (0 < x i)
def turnOf (x : Nat → Int) (t : Nat) : Nat := (idsTo x 8).getD (t % (idsTo x 8).length) 0

theorem idsTo_step (x : Nat → Int) (k : Nat) : idsTo x (k + 1) = idsTo x k ++ if 0 < x k then [k] else [] := by
  unfold idsTo
  rw [List.range_succ, List.filter_append]
  by_cases h : 0 < x k
  · rw [if_pos h, List.filter_cons_of_pos (by simpa using h)]
    rfl
  · rw [if_neg h, List.filter_cons_of_neg (by simpa using h)]
    rfl
theorem idsTo_le (x : Nat → Int) (k : Nat) : (idsTo x k).length ≤ k := by
  unfold idsTo
  have := List.length_filter_le (fun i => decide (0 < x i)) (List.range k)
  simpa using this
theorem sumTo_ids (x : Nat → Int) (hx : Dom x) : ∀ k, idsTo x k = [] → sumTo x k = 0
  | 0, _ => rfl
  | k + 1, h => by
    rw [idsTo_step] at h
    have h1 := List.append_eq_nil_iff.1 h
    have h2 := sumTo_ids x hx k h1.1
    have h3 := hx k
    have h4 : ¬ 0 < x k := fun hp => by rw [if_pos hp] at h1; simp at h1
    simp only [sumTo]
    omega
theorem ids_pos {x : Nat → Int} (hx : Dom x) (hp : 0 < sumTo x 8) : 0 < (idsTo x 8).length := by
  rcases Nat.eq_zero_or_pos (idsTo x 8).length with h | h
  · have := sumTo_ids x hx 8 (List.length_eq_zero_iff.1 h)
    omega
  · exact h
def idL (l : List Nat) : List Value := l.map fun (i : Nat) => Value.int .i64 (i : Int)

set_option maxRecDepth 100000 in
set_option maxHeartbeats 1600000 in
theorem proposer_any (x : Nat → Int) (t : Nat) (w : World) (hx : Dom x) (hp : 0 < sumTo x 8) (ht : t ≤ 1000000000) :
    Calls Tryz.prog 182 #[.agg (regA x), .int .i64 (t : Int)] w fun e w' => e = .returned (.int .i64 (turnOf x t : Int)) ∧ Below w.heap.size w w' := by
  obtain ⟨i3, hi3, hz0, hz1, hz2⟩ := info_parts Tryz.infoInt
  have HR := hide (RegAt.alloc w 116 x)
  have HPOS := hide (ids_pos hx hp)
  have HT := hide ht
  clear hx hp ht
  go_enter Tryz.func182, Tryz.ntmps182
  go_wp2_with (refine wpList_load_mid rfl 46 _ rfl w.heap.size 0 rfl (powL x 8) _ (powL_range HR.out) Tryz.underlying46 rfl (by rw [powL_length]; exact Tryz.sizePowers) ?_)
  go_loopw [5, 6, 7, 10] (fun v _ _ i wr => ∃ k : Nat, k ≤ 8 ∧ i = .int .i64 k ∧ wr.ownsRow w.heap.size 3 1 v (idsTo x k).length (idL (idsTo x k)) ∧ Below w.heap.size w wr) (fun _ _ _ i _ => 8 - (intOf i).toNat)
  case atStart => exact ⟨0, by omega, rfl, World.ownsRow_nil _ _ _ _, (Below.refl _ w).alloc (Nat.le_refl _) _⟩
  case round =>
    obtain ⟨k, hk, rfl, hv, hb⟩ := hrel
    have HV := hide hv
    have HB := hide hb
    clear hv hb
    by_cases hlt : k < 8
    · have hg := index_pow (powL x 8).toArray k (x k) hlt (powL_get x 8 k hlt)
      have hk2 : (k : Int) < 8 := by omega
      have hle := idsTo_le x k
      obtain ⟨L, hL⟩ : ∃ L, L = idsTo x k := ⟨_, rfl⟩
      rw [← hL] at HV hle
      have HLL := hide hL
      clear hL
      have hwz : w.heap.size ≤ wr.heap.size := HB.out.size
      by_cases hpk : 0 < x k
      · have HS : Hid (idsTo x (k + 1) = L ++ [k]) := by unfold Hid; rw [idsTo_step, if_pos hpk, HLL.out]
        have hpd : decide (0 < x k) = true := decide_eq_true hpk
        go_wp2_with (first | (at_builtin; refine wpList_append_at _ rfl _ _ 22 rfl w.heap.size 3 i3 (.int .i64 0) 1 8 Tryz.underlying22 hi3 hz0 hz1 hz2 rfl (by decide) _ _ _ rfl (own_blocks HV.out (fun g _ hg => Below.heap_alloc wr (.cells #[.int .i64 (k : Int)] 3) g hg)) ⟨wr.heap.size, 0, none⟩ 1 1 [.int .i64 (k : Int)] rfl rfl ?c1 ?c2 ?c3 ?c4 ?c5 ?_) | go_in)
        case c1 =>
          intro j u hj
          match j, hj with
          | 0, hj => simp at hj; subst hj; simp [Addr.add]
        case c2 => first | rfl | (intro u hu; simp at hu; subst hu; rfl)
        case c3 => unfold maxLen; omega
        case c4 => omega
        case c5 => first | omega | (simp; omega)
        intro v4 w4 hown hgrow hat
        have HB4 : Hid (Below w.heap.size w w4) := (HB.out.alloc hwz _).grown hgrow (by simp; omega) (fun k hk => (HV.out.lt k hk).1)
        have HOWN := hide hown
        clear hown hgrow hat
        go_wp2
        go_roundw
        case rel =>
          refine ⟨k + 1, by omega, by go_num, ?_, HB4.out⟩
          rw [HS.out, List.length_append]
          unfold idL
          rw [List.map_append]
          exact HOWN.out
        case measure => simp [intOf]; omega
      · have HS : Hid (idsTo x (k + 1) = L) := by unfold Hid; rw [idsTo_step, if_neg hpk, HLL.out, List.append_nil]
        have hpd : decide (0 < x k) = false := decide_eq_false hpk
        go_wp2
        go_roundw
        case rel =>
          refine ⟨k + 1, by omega, by go_num, ?_, HB.out⟩
          rw [HS.out]
          exact HV.out
        case measure => simp [intOf]; omega
    · obtain rfl : k = 8 := by omega
      obtain ⟨vp, vc, rfl⟩ := own_slice HV.out
      obtain ⟨n, hn⟩ : ∃ n, n = (idsTo x 8).length := ⟨_, rfl⟩
      have hn0 : 0 < n := by rw [hn]; exact HPOS.out
      have hn8 : n ≤ 8 := by rw [hn]; exact idsTo_le x 8
      obtain ⟨r, hr⟩ : ∃ r, r = t % n := ⟨_, rfl⟩
      have hrn : r < n := by rw [hr]; exact Nat.mod_lt _ hn0
      have hci : ∃ g, vp = some ⟨g, 0, none⟩ ∧ wr.cell? ⟨g, r, none⟩ = some (.int .i64 (turnOf x t : Int)) := by
        rcases HV.out.2 with ⟨_, h0⟩ | ⟨g, cap, cur, e0, hb, hg, hnc, hcm, hcs, htk⟩
        · omega
        · cases e0
          refine ⟨g, rfl, ?_⟩
          rw [cell_of_row wr g r _ _ _ hg]
          have e1 : (cur.toList.take ((idsTo x 8).length * 1))[r]? = (idL (idsTo x 8))[r]? := by rw [htk]
          rw [List.getElem?_take, if_pos (by omega)] at e1
          rw [← Array.getElem?_toList, e1]
          unfold idL turnOf
          rw [List.getElem?_map, ← hn, ← hr, List.getD_eq_getElem?_getD, List.getElem?_eq_getElem (by omega)]
          rfl
      obtain ⟨g, rfl, hc⟩ := hci
      have hrem : Int.tmod (t : Int) (n : Int) = (r : Int) := by rw [hr]; rfl
      have hnz : ((n : Int) == 0) = false := by simp; omega
      have hnz2 : ¬ (n : Int) = 0 := by omega
      have hrn2 : (r : Int) < n := by omega
      obtain ⟨T, hTT⟩ : ∃ T : Int, T = (turnOf x t : Int) := ⟨_, rfl⟩
      rw [← hTT] at hc
      have HTT := hide hTT
      rw [← hn]
      clear HV hn hr hTT
      go_wp2
      go_ret
      exact ⟨by rw [← HTT.out]; rfl, HB.out⟩

end Go.Proofs.YtcfjhbcpjpgodaaGreatDoor
