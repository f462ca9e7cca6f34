/- Proved here: what the document's own Decode answers at a text that opens with the kind 1. · Proved here: what the document's own Decode answers at a text of another kind whose fifth byte is 1. · Proved here: what the document's own Decode answers at a text of another kind whose fifth byte is not 1. · Proved here: what the document's own Decode answers at every text of six bytes or more. -/
import Derived.Test.YtcfjhbcpjpgodaaDoorJ4
namespace Go.Proofs.YtcfjhbcpjpgodaaDoor
open Go.RowKit

set_option maxRecDepth 100000 in
set_option maxHeartbeats 800000 in
theorem refDecode_a (t : ByteArray) (k1 k2 k3 k4 k5 : Int) (s : ByteArray) (w : World) (hs : t.size ≤ maxLen) (hp : Parts t 1 k1 k2 k3 k4 k5 s) :
    Calls Tryd.prog 13 #[.string t] w fun e w' => e = .returned (.tuple #[decM 1 k1 k2 k3 k4 k5 s, .bool (decB 1 k1 k2 k3 k4 k5 s.size)]) ∧ Below w.heap.size w w' := by
  have a0 := hp.at0
  have a1 := hp.at1
  have a2 := hp.at2
  have a3 := hp.at3
  have a4 := hp.at4
  have ar := hp.rest
  have b0 := hp.b0
  have b1 := hp.b1
  have b2 := hp.b2
  have b3 := hp.b3
  have b4 := hp.b4
  have EV : Hid (vOf 1 k4 = k4 - 1) := by unfold Hid vOf; rw [if_pos rfl]
  have EN : Hid (nlOf 1 k4 = false) := by unfold Hid nlOf; rw [if_pos rfl]
  have h6 : ¬ (t.size : Int) < 6 := by have := hp.size; omega
  have HP := hide hp
  have HS : Hid (s.size ≤ maxLen) := by have := hp.size; unfold Hid; omega
  clear hp hs
  go_enter Tryd.func13, Tryd.ntmps13
  go_wp2
  go_region
  go_wp2_with fail
  refine (refEncode_any 1 k1 k2 k3 (k4 - 1) false s _ HS.out (by omega) (by omega)).mono ?_
  rintro e w1 ⟨rfl, hb1⟩
  have p0 : w1.cell? ⟨w.heap.size, 0, none⟩ = some (.int .i64 0) := by rw [hb1.cell (p := ⟨w.heap.size, 0, none⟩) (by simp; omega)]; simp
  have p1 : w1.cell? ⟨w.heap.size, 1, none⟩ = some (.int .i64 0) := by rw [hb1.cell (p := ⟨w.heap.size, 1, none⟩) (by simp; omega)]; simp
  have p2 : w1.cell? ⟨w.heap.size, 2, none⟩ = some (.int .i64 0) := by rw [hb1.cell (p := ⟨w.heap.size, 2, none⟩) (by simp; omega)]; simp
  have p3 : w1.cell? ⟨w.heap.size, 3, none⟩ = some (.int .i64 0) := by rw [hb1.cell (p := ⟨w.heap.size, 3, none⟩) (by simp; omega)]; simp
  have p4 : w1.cell? ⟨w.heap.size, 4, none⟩ = some (.int .i64 0) := by rw [hb1.cell (p := ⟨w.heap.size, 4, none⟩) (by simp; omega)]; simp
  have p5 : w1.cell? ⟨w.heap.size, 5, none⟩ = some (.bool false) := by rw [hb1.cell (p := ⟨w.heap.size, 5, none⟩) (by simp; omega)]; simp
  have p6 : w1.cell? ⟨w.heap.size, 6, none⟩ = some (.string ⟨#[]⟩) := by rw [hb1.cell (p := ⟨w.heap.size, 6, none⟩) (by simp; omega)]; simp
  have f0 : w1.frozen? ⟨w.heap.size, 0, none⟩ = false := by rw [hb1.frozen (p := ⟨w.heap.size, 0, none⟩) (by simp; omega)]; simp
  have f1 : w1.frozen? ⟨w.heap.size, 1, none⟩ = false := by rw [hb1.frozen (p := ⟨w.heap.size, 1, none⟩) (by simp; omega)]; simp
  have f2 : w1.frozen? ⟨w.heap.size, 2, none⟩ = false := by rw [hb1.frozen (p := ⟨w.heap.size, 2, none⟩) (by simp; omega)]; simp
  have f3 : w1.frozen? ⟨w.heap.size, 3, none⟩ = false := by rw [hb1.frozen (p := ⟨w.heap.size, 3, none⟩) (by simp; omega)]; simp
  have f4 : w1.frozen? ⟨w.heap.size, 4, none⟩ = false := by rw [hb1.frozen (p := ⟨w.heap.size, 4, none⟩) (by simp; omega)]; simp
  have f5 : w1.frozen? ⟨w.heap.size, 5, none⟩ = false := by rw [hb1.frozen (p := ⟨w.heap.size, 5, none⟩) (by simp; omega)]; simp
  have f6 : w1.frozen? ⟨w.heap.size, 6, none⟩ = false := by rw [hb1.frozen (p := ⟨w.heap.size, 6, none⟩) (by simp; omega)]; simp
  have r0 : w1.cell? ⟨w.heap.size + 1, 0, none⟩ = some (.int .i64 1) := by rw [hb1.cell (p := ⟨w.heap.size + 1, 0, none⟩) (by simp)]; simp
  have r1 : w1.cell? ⟨w.heap.size + 1, 1, none⟩ = some (.int .i64 k1) := by rw [hb1.cell (p := ⟨w.heap.size + 1, 1, none⟩) (by simp)]; simp
  have r2 : w1.cell? ⟨w.heap.size + 1, 2, none⟩ = some (.int .i64 k2) := by rw [hb1.cell (p := ⟨w.heap.size + 1, 2, none⟩) (by simp)]; simp
  have r3 : w1.cell? ⟨w.heap.size + 1, 3, none⟩ = some (.int .i64 k3) := by rw [hb1.cell (p := ⟨w.heap.size + 1, 3, none⟩) (by simp)]; simp
  have r4 : w1.cell? ⟨w.heap.size + 1, 4, none⟩ = some (.int .i64 (k4 - 1)) := by rw [hb1.cell (p := ⟨w.heap.size + 1, 4, none⟩) (by simp)]; simp
  have r5 : w1.cell? ⟨w.heap.size + 1, 5, none⟩ = some (.bool false) := by rw [hb1.cell (p := ⟨w.heap.size + 1, 5, none⟩) (by simp)]; simp
  have r6 : w1.cell? ⟨w.heap.size + 1, 6, none⟩ = some (.string s) := by rw [hb1.cell (p := ⟨w.heap.size + 1, 6, none⟩) (by simp)]; simp
  have HB : Hid (Below w.heap.size w w1) := (((Below.refl _ w).alloc (Nat.le_refl _) _).alloc (by simp) _).drew.trans (hb1.mono (by simp; omega))
  clear hb1
  cases hX : hasB 1 k1 k2 k3 (k4 - 1) false s.size with
  | false =>
    rw [encS_no hX]
    have hd : decB 1 k1 k2 k3 k4 k5 s.size = false := decB_no (by rw [EV.out, EN.out]; exact hX)
    have HD := hide hd
    clear hX hd
    go_wp2
    exact bodyPost_ret (v := .tuple #[.agg #[.int .i64 0, .int .i64 0, .int .i64 0, .int .i64 0, .int .i64 0, .bool false, .string ⟨#[]⟩], .bool false]) (by simp [results, Tryd.results13, go_sem, p0, p1, p2, p3, p4, p5, p6]) rfl ⟨dec_no HD.out, HB.out.setCell (Nat.le_refl _) _ |>.setCell (Nat.le_refl _) _ |>.setCell (Nat.le_refl _) _ |>.setCell (Nat.le_refl _) _ |>.setCell (Nat.le_refl _) _ |>.setCell (Nat.le_refl _) _ |>.setCell (Nat.le_refl _) _⟩
  | true =>
    have hf := decB_frame HP.out (by rw [EV.out, EN.out]; exact hX)
    rw [EV.out, EN.out] at hf
    by_cases he : encS 1 k1 k2 k3 (k4 - 1) false s = t
    · have HD := hide (hf.1 he)
      rw [he]
      clear hf he hX
      go_wp2
      exact bodyPost_ret (v := .tuple #[.agg #[.int .i64 1, .int .i64 k1, .int .i64 k2, .int .i64 k3, .int .i64 (k4 - 1), .bool false, .string s], .bool true]) (by simp [results, Tryd.results13, go_sem, p0, p1, p2, p3, p4, p5, p6]) rfl ⟨dec_yes HD.out EV.out EN.out, HB.out.setCell (Nat.le_refl _) _ |>.setCell (Nat.le_refl _) _ |>.setCell (Nat.le_refl _) _ |>.setCell (Nat.le_refl _) _ |>.setCell (Nat.le_refl _) _ |>.setCell (Nat.le_refl _) _ |>.setCell (Nat.le_refl _) _⟩
    · have hd : decB 1 k1 k2 k3 k4 k5 s.size = false := by
        cases hh : decB 1 k1 k2 k3 k4 k5 s.size
        · rfl
        · exact absurd (hf.2 hh) he
      have HD := hide hd
      generalize encS 1 k1 k2 k3 (k4 - 1) false s = g at he
      have hne' : (g.toList == t.toList) = false := by
        rw [ByteArray.toList_eq, ByteArray.toList_eq]
        simpa using fun e => he (ByteArray.ext (Array.toList_inj.1 e))
      clear hf he hX hd
      go_wp2
      exact bodyPost_ret (v := .tuple #[.agg #[.int .i64 0, .int .i64 0, .int .i64 0, .int .i64 0, .int .i64 0, .bool false, .string ⟨#[]⟩], .bool false]) (by simp [results, Tryd.results13, go_sem, p0, p1, p2, p3, p4, p5, p6]) rfl ⟨dec_no HD.out, HB.out.setCell (Nat.le_refl _) _ |>.setCell (Nat.le_refl _) _ |>.setCell (Nat.le_refl _) _ |>.setCell (Nat.le_refl _) _ |>.setCell (Nat.le_refl _) _ |>.setCell (Nat.le_refl _) _ |>.setCell (Nat.le_refl _) _⟩

end Go.Proofs.YtcfjhbcpjpgodaaDoor
namespace Go.Proofs.YtcfjhbcpjpgodaaDoor
open Go.RowKit

set_option maxRecDepth 100000 in
set_option maxHeartbeats 800000 in
theorem refDecode_b (t : ByteArray) (k0 k1 k2 k3 k5 : Int) (s : ByteArray) (w : World) (hs : t.size ≤ maxLen) (hp : Parts t k0 k1 k2 k3 1 k5 s) (hk : k0 ≠ 1) :
    Calls Tryd.prog 13 #[.string t] w fun e w' => e = .returned (.tuple #[decM k0 k1 k2 k3 1 k5 s, .bool (decB k0 k1 k2 k3 1 k5 s.size)]) ∧ Below w.heap.size w w' := by
  have a0 := hp.at0
  have a1 := hp.at1
  have a2 := hp.at2
  have a3 := hp.at3
  have a4 := hp.at4
  have ar := hp.rest
  have b0 := hp.b0
  have b1 := hp.b1
  have b2 := hp.b2
  have b3 := hp.b3
  have b4 := hp.b4
  have EV : Hid (vOf k0 1 = 0) := by unfold Hid vOf; rw [if_neg hk]
  have EN : Hid (nlOf k0 1 = true) := by unfold Hid nlOf; rw [if_neg hk]; rfl
  have hk' : (k0 == 1) = false := by simpa using hk
  clear hk
  have h6 : ¬ (t.size : Int) < 6 := by have := hp.size; omega
  have HP := hide hp
  have HS : Hid (s.size ≤ maxLen) := by have := hp.size; unfold Hid; omega
  clear hp hs
  go_enter Tryd.func13, Tryd.ntmps13
  go_wp2
  go_region
  go_wp2_with fail
  refine (refEncode_any k0 k1 k2 k3 0 true s _ HS.out (by omega) (by omega)).mono ?_
  rintro e w1 ⟨rfl, hb1⟩
  have p0 : w1.cell? ⟨w.heap.size, 0, none⟩ = some (.int .i64 0) := by rw [hb1.cell (p := ⟨w.heap.size, 0, none⟩) (by simp; omega)]; simp
  have p1 : w1.cell? ⟨w.heap.size, 1, none⟩ = some (.int .i64 0) := by rw [hb1.cell (p := ⟨w.heap.size, 1, none⟩) (by simp; omega)]; simp
  have p2 : w1.cell? ⟨w.heap.size, 2, none⟩ = some (.int .i64 0) := by rw [hb1.cell (p := ⟨w.heap.size, 2, none⟩) (by simp; omega)]; simp
  have p3 : w1.cell? ⟨w.heap.size, 3, none⟩ = some (.int .i64 0) := by rw [hb1.cell (p := ⟨w.heap.size, 3, none⟩) (by simp; omega)]; simp
  have p4 : w1.cell? ⟨w.heap.size, 4, none⟩ = some (.int .i64 0) := by rw [hb1.cell (p := ⟨w.heap.size, 4, none⟩) (by simp; omega)]; simp
  have p5 : w1.cell? ⟨w.heap.size, 5, none⟩ = some (.bool false) := by rw [hb1.cell (p := ⟨w.heap.size, 5, none⟩) (by simp; omega)]; simp
  have p6 : w1.cell? ⟨w.heap.size, 6, none⟩ = some (.string ⟨#[]⟩) := by rw [hb1.cell (p := ⟨w.heap.size, 6, none⟩) (by simp; omega)]; simp
  have f0 : w1.frozen? ⟨w.heap.size, 0, none⟩ = false := by rw [hb1.frozen (p := ⟨w.heap.size, 0, none⟩) (by simp; omega)]; simp
  have f1 : w1.frozen? ⟨w.heap.size, 1, none⟩ = false := by rw [hb1.frozen (p := ⟨w.heap.size, 1, none⟩) (by simp; omega)]; simp
  have f2 : w1.frozen? ⟨w.heap.size, 2, none⟩ = false := by rw [hb1.frozen (p := ⟨w.heap.size, 2, none⟩) (by simp; omega)]; simp
  have f3 : w1.frozen? ⟨w.heap.size, 3, none⟩ = false := by rw [hb1.frozen (p := ⟨w.heap.size, 3, none⟩) (by simp; omega)]; simp
  have f4 : w1.frozen? ⟨w.heap.size, 4, none⟩ = false := by rw [hb1.frozen (p := ⟨w.heap.size, 4, none⟩) (by simp; omega)]; simp
  have f5 : w1.frozen? ⟨w.heap.size, 5, none⟩ = false := by rw [hb1.frozen (p := ⟨w.heap.size, 5, none⟩) (by simp; omega)]; simp
  have f6 : w1.frozen? ⟨w.heap.size, 6, none⟩ = false := by rw [hb1.frozen (p := ⟨w.heap.size, 6, none⟩) (by simp; omega)]; simp
  have r0 : w1.cell? ⟨w.heap.size + 1, 0, none⟩ = some (.int .i64 k0) := by rw [hb1.cell (p := ⟨w.heap.size + 1, 0, none⟩) (by simp)]; simp
  have r1 : w1.cell? ⟨w.heap.size + 1, 1, none⟩ = some (.int .i64 k1) := by rw [hb1.cell (p := ⟨w.heap.size + 1, 1, none⟩) (by simp)]; simp
  have r2 : w1.cell? ⟨w.heap.size + 1, 2, none⟩ = some (.int .i64 k2) := by rw [hb1.cell (p := ⟨w.heap.size + 1, 2, none⟩) (by simp)]; simp
  have r3 : w1.cell? ⟨w.heap.size + 1, 3, none⟩ = some (.int .i64 k3) := by rw [hb1.cell (p := ⟨w.heap.size + 1, 3, none⟩) (by simp)]; simp
  have r4 : w1.cell? ⟨w.heap.size + 1, 4, none⟩ = some (.int .i64 0) := by rw [hb1.cell (p := ⟨w.heap.size + 1, 4, none⟩) (by simp)]; simp
  have r5 : w1.cell? ⟨w.heap.size + 1, 5, none⟩ = some (.bool true) := by rw [hb1.cell (p := ⟨w.heap.size + 1, 5, none⟩) (by simp)]; simp
  have r6 : w1.cell? ⟨w.heap.size + 1, 6, none⟩ = some (.string s) := by rw [hb1.cell (p := ⟨w.heap.size + 1, 6, none⟩) (by simp)]; simp
  have HB : Hid (Below w.heap.size w w1) := (((Below.refl _ w).alloc (Nat.le_refl _) _).alloc (by simp) _).drew.trans (hb1.mono (by simp; omega))
  clear hb1
  cases hX : hasB k0 k1 k2 k3 0 true s.size with
  | false =>
    rw [encS_no hX]
    have hd : decB k0 k1 k2 k3 1 k5 s.size = false := decB_no (by rw [EV.out, EN.out]; exact hX)
    have HD := hide hd
    clear hX hd
    go_wp2
    exact bodyPost_ret (v := .tuple #[.agg #[.int .i64 0, .int .i64 0, .int .i64 0, .int .i64 0, .int .i64 0, .bool false, .string ⟨#[]⟩], .bool false]) (by simp [results, Tryd.results13, go_sem, p0, p1, p2, p3, p4, p5, p6]) rfl ⟨dec_no HD.out, HB.out.setCell (Nat.le_refl _) _ |>.setCell (Nat.le_refl _) _ |>.setCell (Nat.le_refl _) _ |>.setCell (Nat.le_refl _) _ |>.setCell (Nat.le_refl _) _ |>.setCell (Nat.le_refl _) _ |>.setCell (Nat.le_refl _) _⟩
  | true =>
    have hf := decB_frame HP.out (by rw [EV.out, EN.out]; exact hX)
    rw [EV.out, EN.out] at hf
    by_cases he : encS k0 k1 k2 k3 0 true s = t
    · have HD := hide (hf.1 he)
      rw [he]
      clear hf he hX
      go_wp2
      exact bodyPost_ret (v := .tuple #[.agg #[.int .i64 k0, .int .i64 k1, .int .i64 k2, .int .i64 k3, .int .i64 0, .bool true, .string s], .bool true]) (by simp [results, Tryd.results13, go_sem, p0, p1, p2, p3, p4, p5, p6]) rfl ⟨dec_yes HD.out EV.out EN.out, HB.out.setCell (Nat.le_refl _) _ |>.setCell (Nat.le_refl _) _ |>.setCell (Nat.le_refl _) _ |>.setCell (Nat.le_refl _) _ |>.setCell (Nat.le_refl _) _ |>.setCell (Nat.le_refl _) _ |>.setCell (Nat.le_refl _) _⟩
    · have hd : decB k0 k1 k2 k3 1 k5 s.size = false := by
        cases hh : decB k0 k1 k2 k3 1 k5 s.size
        · rfl
        · exact absurd (hf.2 hh) he
      have HD := hide hd
      generalize encS k0 k1 k2 k3 0 true s = g at he
      have hne' : (g.toList == t.toList) = false := by
        rw [ByteArray.toList_eq, ByteArray.toList_eq]
        simpa using fun e => he (ByteArray.ext (Array.toList_inj.1 e))
      clear hf he hX hd
      go_wp2
      exact bodyPost_ret (v := .tuple #[.agg #[.int .i64 0, .int .i64 0, .int .i64 0, .int .i64 0, .int .i64 0, .bool false, .string ⟨#[]⟩], .bool false]) (by simp [results, Tryd.results13, go_sem, p0, p1, p2, p3, p4, p5, p6]) rfl ⟨dec_no HD.out, HB.out.setCell (Nat.le_refl _) _ |>.setCell (Nat.le_refl _) _ |>.setCell (Nat.le_refl _) _ |>.setCell (Nat.le_refl _) _ |>.setCell (Nat.le_refl _) _ |>.setCell (Nat.le_refl _) _ |>.setCell (Nat.le_refl _) _⟩

end Go.Proofs.YtcfjhbcpjpgodaaDoor
namespace Go.Proofs.YtcfjhbcpjpgodaaDoor
open Go.RowKit

set_option maxRecDepth 100000 in
set_option maxHeartbeats 800000 in
theorem refDecode_c (t : ByteArray) (k0 k1 k2 k3 k4 k5 : Int) (s : ByteArray) (w : World) (hs : t.size ≤ maxLen) (hp : Parts t k0 k1 k2 k3 k4 k5 s) (hk : k0 ≠ 1) (hk4 : k4 ≠ 1) :
    Calls Tryd.prog 13 #[.string t] w fun e w' => e = .returned (.tuple #[decM k0 k1 k2 k3 k4 k5 s, .bool (decB k0 k1 k2 k3 k4 k5 s.size)]) ∧ Below w.heap.size w w' := by
  have a0 := hp.at0
  have a1 := hp.at1
  have a2 := hp.at2
  have a3 := hp.at3
  have a4 := hp.at4
  have ar := hp.rest
  have b0 := hp.b0
  have b1 := hp.b1
  have b2 := hp.b2
  have b3 := hp.b3
  have b4 := hp.b4
  have EV : Hid (vOf k0 k4 = 0) := by unfold Hid vOf; rw [if_neg hk]
  have EN : Hid (nlOf k0 k4 = false) := by unfold Hid nlOf; rw [if_neg hk]; simpa using hk4
  have hk' : (k0 == 1) = false := by simpa using hk
  have hk4' : (k4 == 1) = false := by simpa using hk4
  clear hk hk4
  have h6 : ¬ (t.size : Int) < 6 := by have := hp.size; omega
  have HP := hide hp
  have HS : Hid (s.size ≤ maxLen) := by have := hp.size; unfold Hid; omega
  clear hp hs
  go_enter Tryd.func13, Tryd.ntmps13
  go_wp2
  go_region
  go_wp2_with fail
  refine (refEncode_any k0 k1 k2 k3 0 false s _ HS.out (by omega) (by omega)).mono ?_
  rintro e w1 ⟨rfl, hb1⟩
  have p0 : w1.cell? ⟨w.heap.size, 0, none⟩ = some (.int .i64 0) := by rw [hb1.cell (p := ⟨w.heap.size, 0, none⟩) (by simp; omega)]; simp
  have p1 : w1.cell? ⟨w.heap.size, 1, none⟩ = some (.int .i64 0) := by rw [hb1.cell (p := ⟨w.heap.size, 1, none⟩) (by simp; omega)]; simp
  have p2 : w1.cell? ⟨w.heap.size, 2, none⟩ = some (.int .i64 0) := by rw [hb1.cell (p := ⟨w.heap.size, 2, none⟩) (by simp; omega)]; simp
  have p3 : w1.cell? ⟨w.heap.size, 3, none⟩ = some (.int .i64 0) := by rw [hb1.cell (p := ⟨w.heap.size, 3, none⟩) (by simp; omega)]; simp
  have p4 : w1.cell? ⟨w.heap.size, 4, none⟩ = some (.int .i64 0) := by rw [hb1.cell (p := ⟨w.heap.size, 4, none⟩) (by simp; omega)]; simp
  have p5 : w1.cell? ⟨w.heap.size, 5, none⟩ = some (.bool false) := by rw [hb1.cell (p := ⟨w.heap.size, 5, none⟩) (by simp; omega)]; simp
  have p6 : w1.cell? ⟨w.heap.size, 6, none⟩ = some (.string ⟨#[]⟩) := by rw [hb1.cell (p := ⟨w.heap.size, 6, none⟩) (by simp; omega)]; simp
  have f0 : w1.frozen? ⟨w.heap.size, 0, none⟩ = false := by rw [hb1.frozen (p := ⟨w.heap.size, 0, none⟩) (by simp; omega)]; simp
  have f1 : w1.frozen? ⟨w.heap.size, 1, none⟩ = false := by rw [hb1.frozen (p := ⟨w.heap.size, 1, none⟩) (by simp; omega)]; simp
  have f2 : w1.frozen? ⟨w.heap.size, 2, none⟩ = false := by rw [hb1.frozen (p := ⟨w.heap.size, 2, none⟩) (by simp; omega)]; simp
  have f3 : w1.frozen? ⟨w.heap.size, 3, none⟩ = false := by rw [hb1.frozen (p := ⟨w.heap.size, 3, none⟩) (by simp; omega)]; simp
  have f4 : w1.frozen? ⟨w.heap.size, 4, none⟩ = false := by rw [hb1.frozen (p := ⟨w.heap.size, 4, none⟩) (by simp; omega)]; simp
  have f5 : w1.frozen? ⟨w.heap.size, 5, none⟩ = false := by rw [hb1.frozen (p := ⟨w.heap.size, 5, none⟩) (by simp; omega)]; simp
  have f6 : w1.frozen? ⟨w.heap.size, 6, none⟩ = false := by rw [hb1.frozen (p := ⟨w.heap.size, 6, none⟩) (by simp; omega)]; simp
  have r0 : w1.cell? ⟨w.heap.size + 1, 0, none⟩ = some (.int .i64 k0) := by rw [hb1.cell (p := ⟨w.heap.size + 1, 0, none⟩) (by simp)]; simp
  have r1 : w1.cell? ⟨w.heap.size + 1, 1, none⟩ = some (.int .i64 k1) := by rw [hb1.cell (p := ⟨w.heap.size + 1, 1, none⟩) (by simp)]; simp
  have r2 : w1.cell? ⟨w.heap.size + 1, 2, none⟩ = some (.int .i64 k2) := by rw [hb1.cell (p := ⟨w.heap.size + 1, 2, none⟩) (by simp)]; simp
  have r3 : w1.cell? ⟨w.heap.size + 1, 3, none⟩ = some (.int .i64 k3) := by rw [hb1.cell (p := ⟨w.heap.size + 1, 3, none⟩) (by simp)]; simp
  have r4 : w1.cell? ⟨w.heap.size + 1, 4, none⟩ = some (.int .i64 0) := by rw [hb1.cell (p := ⟨w.heap.size + 1, 4, none⟩) (by simp)]; simp
  have r5 : w1.cell? ⟨w.heap.size + 1, 5, none⟩ = some (.bool false) := by rw [hb1.cell (p := ⟨w.heap.size + 1, 5, none⟩) (by simp)]; simp
  have r6 : w1.cell? ⟨w.heap.size + 1, 6, none⟩ = some (.string s) := by rw [hb1.cell (p := ⟨w.heap.size + 1, 6, none⟩) (by simp)]; simp
  have HB : Hid (Below w.heap.size w w1) := (((Below.refl _ w).alloc (Nat.le_refl _) _).alloc (by simp) _).drew.trans (hb1.mono (by simp; omega))
  clear hb1
  cases hX : hasB k0 k1 k2 k3 0 false s.size with
  | false =>
    rw [encS_no hX]
    have hd : decB k0 k1 k2 k3 k4 k5 s.size = false := decB_no (by rw [EV.out, EN.out]; exact hX)
    have HD := hide hd
    clear hX hd
    go_wp2
    exact bodyPost_ret (v := .tuple #[.agg #[.int .i64 0, .int .i64 0, .int .i64 0, .int .i64 0, .int .i64 0, .bool false, .string ⟨#[]⟩], .bool false]) (by simp [results, Tryd.results13, go_sem, p0, p1, p2, p3, p4, p5, p6]) rfl ⟨dec_no HD.out, HB.out.setCell (Nat.le_refl _) _ |>.setCell (Nat.le_refl _) _ |>.setCell (Nat.le_refl _) _ |>.setCell (Nat.le_refl _) _ |>.setCell (Nat.le_refl _) _ |>.setCell (Nat.le_refl _) _ |>.setCell (Nat.le_refl _) _⟩
  | true =>
    have hf := decB_frame HP.out (by rw [EV.out, EN.out]; exact hX)
    rw [EV.out, EN.out] at hf
    by_cases he : encS k0 k1 k2 k3 0 false s = t
    · have HD := hide (hf.1 he)
      rw [he]
      clear hf he hX
      go_wp2
      exact bodyPost_ret (v := .tuple #[.agg #[.int .i64 k0, .int .i64 k1, .int .i64 k2, .int .i64 k3, .int .i64 0, .bool false, .string s], .bool true]) (by simp [results, Tryd.results13, go_sem, p0, p1, p2, p3, p4, p5, p6]) rfl ⟨dec_yes HD.out EV.out EN.out, HB.out.setCell (Nat.le_refl _) _ |>.setCell (Nat.le_refl _) _ |>.setCell (Nat.le_refl _) _ |>.setCell (Nat.le_refl _) _ |>.setCell (Nat.le_refl _) _ |>.setCell (Nat.le_refl _) _ |>.setCell (Nat.le_refl _) _⟩
    · have hd : decB k0 k1 k2 k3 k4 k5 s.size = false := by
        cases hh : decB k0 k1 k2 k3 k4 k5 s.size
        · rfl
        · exact absurd (hf.2 hh) he
      have HD := hide hd
      generalize encS k0 k1 k2 k3 0 false s = g at he
      have hne' : (g.toList == t.toList) = false := by
        rw [ByteArray.toList_eq, ByteArray.toList_eq]
        simpa using fun e => he (ByteArray.ext (Array.toList_inj.1 e))
      clear hf he hX hd
      go_wp2
      exact bodyPost_ret (v := .tuple #[.agg #[.int .i64 0, .int .i64 0, .int .i64 0, .int .i64 0, .int .i64 0, .bool false, .string ⟨#[]⟩], .bool false]) (by simp [results, Tryd.results13, go_sem, p0, p1, p2, p3, p4, p5, p6]) rfl ⟨dec_no HD.out, HB.out.setCell (Nat.le_refl _) _ |>.setCell (Nat.le_refl _) _ |>.setCell (Nat.le_refl _) _ |>.setCell (Nat.le_refl _) _ |>.setCell (Nat.le_refl _) _ |>.setCell (Nat.le_refl _) _ |>.setCell (Nat.le_refl _) _⟩

end Go.Proofs.YtcfjhbcpjpgodaaDoor
namespace Go.Proofs.YtcfjhbcpjpgodaaDoor
open Go.RowKit

/-- The document's Decode, at every text of six bytes or more. -/
theorem refDecode_any (t : ByteArray) (k0 k1 k2 k3 k4 k5 : Int) (s : ByteArray) (w : World) (hs : t.size ≤ maxLen) (hp : Parts t k0 k1 k2 k3 k4 k5 s) :
    Calls Tryd.prog 13 #[.string t] w fun e w' => e = .returned (.tuple #[decM k0 k1 k2 k3 k4 k5 s, .bool (decB k0 k1 k2 k3 k4 k5 s.size)]) ∧ Below w.heap.size w w' := by
  by_cases hk : k0 = 1
  · subst hk
    exact refDecode_a t k1 k2 k3 k4 k5 s w hs hp
  · by_cases hk4 : k4 = 1
    · subst hk4
      exact refDecode_b t k0 k1 k2 k3 k5 s w hs hp hk
    · exact refDecode_c t k0 k1 k2 k3 k4 k5 s w hs hp hk hk4

end Go.Proofs.YtcfjhbcpjpgodaaDoor
