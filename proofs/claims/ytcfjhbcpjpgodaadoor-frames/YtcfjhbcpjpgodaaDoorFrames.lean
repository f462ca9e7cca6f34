/- Proved here: the statement Frames as a walk: at every message and every text, in every world in which the twelve sentinels lie as listed, the call returns true and leaves all old memory as it was. -/
import Derived.Test.YtcfjhbcpjpgodaaDoorAlive
namespace Go.Proofs.YtcfjhbcpjpgodaaDoor
open Go.RowKit

set_option maxRecDepth 100000 in
set_option maxHeartbeats 1600000 in
theorem frames_true_true (K H R F V K2 H2 R2 F2 V2 : Int) (nl nl2 : Bool) (s s2 t g : ByteArray) (es : List Addr) (b : Addr) (w : World) (hS : Sent es w) (he1 : es[1]? = some b)
    (hE : ∀ w : World, w.cell? ⟨1, 0, none⟩ = some (.iface 188 (.pointer (some b))) → Calls Tryd.prog 10 #[.agg #[.int .i64 K, .int .i64 H, .int .i64 R, .int .i64 F, .int .i64 V, .bool nl, .string s]] w fun e w' => e = .returned (.tuple #[.string g, formE b true]) ∧ Below w.heap.size w w')
    (hE' : ∀ w : World, Calls Tryd.prog 11 #[.agg #[.int .i64 K, .int .i64 H, .int .i64 R, .int .i64 F, .int .i64 V, .bool nl, .string s]] w fun e w' => e = .returned (.tuple #[.string g, .bool true]) ∧ Below w.heap.size w w')
    (hD : ∀ w : World, w.cell? ⟨1, 0, none⟩ = some (.iface 188 (.pointer (some b))) → Calls Tryd.prog 12 #[.string t] w fun e w' => e = .returned (.tuple #[.agg #[.int .i64 K2, .int .i64 H2, .int .i64 R2, .int .i64 F2, .int .i64 V2, .bool nl2, .string s2], formE b true]) ∧ Below w.heap.size w w')
    (hD' : ∀ w : World, Calls Tryd.prog 13 #[.string t] w fun e w' => e = .returned (.tuple #[.agg #[.int .i64 K2, .int .i64 H2, .int .i64 R2, .int .i64 F2, .int .i64 V2, .bool nl2, .string s2], .bool true]) ∧ Below w.heap.size w w') :
    Calls Tryd.prog 4 #[.agg #[.int .i64 K, .int .i64 H, .int .i64 R, .int .i64 F, .int .i64 V, .bool nl, .string s], .string t] w fun e w' => e = .returned (.bool true) ∧ Below w.heap.size w w' := by
  have HE := hide hE
  have HE' := hide hE'
  have HD := hide hD
  have HD' := hide hD'
  have HE1 := hide he1
  have HS := hide hS
  clear hE hE' hD hD' he1 hS
  go_enter Tryd.func4, Tryd.ntmps4
  go_wp2_with fail
  have hS0 := hide (HS.out.later ((Below.refl _ w).alloc (Nat.le_refl _) (.cells #[.int .i64 K, .int .i64 H, .int .i64 R, .int .i64 F, .int .i64 V, .bool nl, .string s] 28)))
  refine (alive_walk b _ (hS0.out.cell 1 _ _ rfl HE1.out)).mono ?_
  rintro e w1 ⟨rfl, hb1⟩
  have hS1 := hide (hS0.out.later hb1)
  have hm1 := hide ((MsgAt.alloc w K H R F V nl s).later hb1 (by simp))
  have hB1 : Hid (Below w.heap.size w w1) := ((Below.refl _ w).alloc (Nat.le_refl _) _).trans (hb1.mono (by simp))
  clear hb1
  obtain ⟨c0, c1, c2, c3, c4, c5, c6, _⟩ := hm1.out.cells
  go_wp2_with fail
  refine (HE.out _ (hS1.out.cell 1 _ _ rfl HE1.out)).mono ?_
  rintro e w2 ⟨rfl, hb2⟩
  have hS2 := hide (hS1.out.later hb2)
  have hm2 := hide (hm1.out.later hb2 hm1.out.lt)
  have hB2 : Hid (Below w.heap.size w w2) := hB1.out.trans (hb2.mono hB1.out.size)
  clear hb2 c0 c1 c2 c3 c4 c5 c6
  obtain ⟨c0, c1, c2, c3, c4, c5, c6, _⟩ := hm2.out.cells
  go_wp2_with fail
  refine (HE'.out _).mono ?_
  rintro e w3 ⟨rfl, hb3⟩
  have hS3 := hide (hS2.out.later hb3)
  have hB3 : Hid (Below w.heap.size w w3) := hB2.out.trans (hb3.mono hB2.out.size)
  clear hb3 c0 c1 c2 c3 c4 c5 c6
  go_wp2_with fail
  refine (HD.out _ (hS3.out.cell 1 _ _ rfl HE1.out)).mono ?_
  rintro e w4 ⟨rfl, hb4⟩
  have hS4 := hide (hS3.out.later hb4)
  have hB4 : Hid (Below w.heap.size w w4) := hB3.out.trans (hb4.mono hB3.out.size)
  clear hb4
  go_wp2_with fail
  refine (HD'.out _).mono ?_
  rintro e w5 ⟨rfl, hb5⟩
  have hS5 := hide ((hS4.out.later ((Below.refl _ w4).alloc (Nat.le_refl _) _)).later hb5)
  have hm5 := hide ((MsgAt.alloc w4 K2 H2 R2 F2 V2 nl2 s2).later hb5 (by simp))
  have hB5 : Hid (Below w.heap.size w w5) := (hB4.out.alloc hB4.out.size _).trans (hb5.mono (by have := hB4.out.size; simp; omega))
  clear hb5
  go_wp2_with fail
  have hS6 := hide (hS5.out.later ((Below.refl _ w5).alloc (Nat.le_refl _) (.cells #[.int .i64 K2, .int .i64 H2, .int .i64 R2, .int .i64 F2, .int .i64 V2, .bool nl2, .string s2] 28)))
  refine ((which_nil hS6.out)).mono ?_
  rintro e w6 ⟨rfl, hb6⟩
  have hS7 := hide (hS6.out.later hb6)
  have hn6 := hide ((MsgAt.alloc w5 K2 H2 R2 F2 V2 nl2 s2).later hb6 (by simp))
  have hm6 := hide ((hm5.out.later (Below.alloc (Below.refl w5.heap.size w5) (Nat.le_refl _) _) hm5.out.lt).later hb6 (by have := hm5.out.lt; simp; omega))
  have hB6 : Hid (Below w.heap.size w w6) := (hB5.out.alloc hB5.out.size _).trans (hb6.mono (by have := hB5.out.size; simp; omega))
  clear hb6
  go_wp2_with fail
  refine ((which_nil hS7.out)).mono ?_
  rintro e w7 ⟨rfl, hb7⟩
  obtain ⟨c0, c1, c2, c3, c4, c5, c6, _⟩ := (hm6.out.later hb7 hm6.out.lt).cells
  obtain ⟨d0, d1, d2, d3, d4, d5, d6, _⟩ := (hn6.out.later hb7 hn6.out.lt).cells
  have hB7 : Hid (Below w.heap.size w w7) := hB6.out.trans (hb7.mono hB6.out.size)
  clear hb7
  go_wp2
  go_ret
  exact ⟨rfl, hB7.out⟩

set_option maxRecDepth 100000 in
set_option maxHeartbeats 1600000 in
theorem frames_true_false (K H R F V K2 H2 R2 F2 V2 : Int) (nl nl2 : Bool) (s s2 t g : ByteArray) (es : List Addr) (b : Addr) (w : World) (hS : Sent es w) (he1 : es[1]? = some b)
    (hE : ∀ w : World, w.cell? ⟨1, 0, none⟩ = some (.iface 188 (.pointer (some b))) → Calls Tryd.prog 10 #[.agg #[.int .i64 K, .int .i64 H, .int .i64 R, .int .i64 F, .int .i64 V, .bool nl, .string s]] w fun e w' => e = .returned (.tuple #[.string g, formE b true]) ∧ Below w.heap.size w w')
    (hE' : ∀ w : World, Calls Tryd.prog 11 #[.agg #[.int .i64 K, .int .i64 H, .int .i64 R, .int .i64 F, .int .i64 V, .bool nl, .string s]] w fun e w' => e = .returned (.tuple #[.string g, .bool true]) ∧ Below w.heap.size w w')
    (hD : ∀ w : World, w.cell? ⟨1, 0, none⟩ = some (.iface 188 (.pointer (some b))) → Calls Tryd.prog 12 #[.string t] w fun e w' => e = .returned (.tuple #[.agg #[.int .i64 K2, .int .i64 H2, .int .i64 R2, .int .i64 F2, .int .i64 V2, .bool nl2, .string s2], formE b false]) ∧ Below w.heap.size w w')
    (hD' : ∀ w : World, Calls Tryd.prog 13 #[.string t] w fun e w' => e = .returned (.tuple #[.agg #[.int .i64 K2, .int .i64 H2, .int .i64 R2, .int .i64 F2, .int .i64 V2, .bool nl2, .string s2], .bool false]) ∧ Below w.heap.size w w') :
    Calls Tryd.prog 4 #[.agg #[.int .i64 K, .int .i64 H, .int .i64 R, .int .i64 F, .int .i64 V, .bool nl, .string s], .string t] w fun e w' => e = .returned (.bool true) ∧ Below w.heap.size w w' := by
  have HE := hide hE
  have HE' := hide hE'
  have HD := hide hD
  have HD' := hide hD'
  have HE1 := hide he1
  have HS := hide hS
  clear hE hE' hD hD' he1 hS
  go_enter Tryd.func4, Tryd.ntmps4
  go_wp2_with fail
  have hS0 := hide (HS.out.later ((Below.refl _ w).alloc (Nat.le_refl _) (.cells #[.int .i64 K, .int .i64 H, .int .i64 R, .int .i64 F, .int .i64 V, .bool nl, .string s] 28)))
  refine (alive_walk b _ (hS0.out.cell 1 _ _ rfl HE1.out)).mono ?_
  rintro e w1 ⟨rfl, hb1⟩
  have hS1 := hide (hS0.out.later hb1)
  have hm1 := hide ((MsgAt.alloc w K H R F V nl s).later hb1 (by simp))
  have hB1 : Hid (Below w.heap.size w w1) := ((Below.refl _ w).alloc (Nat.le_refl _) _).trans (hb1.mono (by simp))
  clear hb1
  obtain ⟨c0, c1, c2, c3, c4, c5, c6, _⟩ := hm1.out.cells
  go_wp2_with fail
  refine (HE.out _ (hS1.out.cell 1 _ _ rfl HE1.out)).mono ?_
  rintro e w2 ⟨rfl, hb2⟩
  have hS2 := hide (hS1.out.later hb2)
  have hm2 := hide (hm1.out.later hb2 hm1.out.lt)
  have hB2 : Hid (Below w.heap.size w w2) := hB1.out.trans (hb2.mono hB1.out.size)
  clear hb2 c0 c1 c2 c3 c4 c5 c6
  obtain ⟨c0, c1, c2, c3, c4, c5, c6, _⟩ := hm2.out.cells
  go_wp2_with fail
  refine (HE'.out _).mono ?_
  rintro e w3 ⟨rfl, hb3⟩
  have hS3 := hide (hS2.out.later hb3)
  have hB3 : Hid (Below w.heap.size w w3) := hB2.out.trans (hb3.mono hB2.out.size)
  clear hb3 c0 c1 c2 c3 c4 c5 c6
  go_wp2_with fail
  refine (HD.out _ (hS3.out.cell 1 _ _ rfl HE1.out)).mono ?_
  rintro e w4 ⟨rfl, hb4⟩
  have hS4 := hide (hS3.out.later hb4)
  have hB4 : Hid (Below w.heap.size w w4) := hB3.out.trans (hb4.mono hB3.out.size)
  clear hb4
  go_wp2_with fail
  refine (HD'.out _).mono ?_
  rintro e w5 ⟨rfl, hb5⟩
  have hS5 := hide ((hS4.out.later ((Below.refl _ w4).alloc (Nat.le_refl _) _)).later hb5)
  have hm5 := hide ((MsgAt.alloc w4 K2 H2 R2 F2 V2 nl2 s2).later hb5 (by simp))
  have hB5 : Hid (Below w.heap.size w w5) := (hB4.out.alloc hB4.out.size _).trans (hb5.mono (by have := hB4.out.size; simp; omega))
  clear hb5
  go_wp2_with fail
  have hS6 := hide (hS5.out.later ((Below.refl _ w5).alloc (Nat.le_refl _) (.cells #[.int .i64 K2, .int .i64 H2, .int .i64 R2, .int .i64 F2, .int .i64 V2, .bool nl2, .string s2] 28)))
  refine ((which_nil hS6.out)).mono ?_
  rintro e w6 ⟨rfl, hb6⟩
  have hS7 := hide (hS6.out.later hb6)
  have hn6 := hide ((MsgAt.alloc w5 K2 H2 R2 F2 V2 nl2 s2).later hb6 (by simp))
  have hm6 := hide ((hm5.out.later (Below.alloc (Below.refl w5.heap.size w5) (Nat.le_refl _) _) hm5.out.lt).later hb6 (by have := hm5.out.lt; simp; omega))
  have hB6 : Hid (Below w.heap.size w w6) := (hB5.out.alloc hB5.out.size _).trans (hb6.mono (by have := hB5.out.size; simp; omega))
  clear hb6
  go_wp2_with fail
  refine ((which_sent hS7.out 1 b HE1.out)).mono ?_
  rintro e w7 ⟨rfl, hb7⟩
  obtain ⟨c0, c1, c2, c3, c4, c5, c6, _⟩ := (hm6.out.later hb7 hm6.out.lt).cells
  obtain ⟨d0, d1, d2, d3, d4, d5, d6, _⟩ := (hn6.out.later hb7 hn6.out.lt).cells
  have hB7 : Hid (Below w.heap.size w w7) := hB6.out.trans (hb7.mono hB6.out.size)
  clear hb7
  go_wp2
  go_ret
  exact ⟨rfl, hB7.out⟩

set_option maxRecDepth 100000 in
set_option maxHeartbeats 1600000 in
theorem frames_false_true (K H R F V K2 H2 R2 F2 V2 : Int) (nl nl2 : Bool) (s s2 t g : ByteArray) (es : List Addr) (b : Addr) (w : World) (hS : Sent es w) (he1 : es[1]? = some b)
    (hE : ∀ w : World, w.cell? ⟨1, 0, none⟩ = some (.iface 188 (.pointer (some b))) → Calls Tryd.prog 10 #[.agg #[.int .i64 K, .int .i64 H, .int .i64 R, .int .i64 F, .int .i64 V, .bool nl, .string s]] w fun e w' => e = .returned (.tuple #[.string g, formE b false]) ∧ Below w.heap.size w w')
    (hE' : ∀ w : World, Calls Tryd.prog 11 #[.agg #[.int .i64 K, .int .i64 H, .int .i64 R, .int .i64 F, .int .i64 V, .bool nl, .string s]] w fun e w' => e = .returned (.tuple #[.string g, .bool false]) ∧ Below w.heap.size w w')
    (hD : ∀ w : World, w.cell? ⟨1, 0, none⟩ = some (.iface 188 (.pointer (some b))) → Calls Tryd.prog 12 #[.string t] w fun e w' => e = .returned (.tuple #[.agg #[.int .i64 K2, .int .i64 H2, .int .i64 R2, .int .i64 F2, .int .i64 V2, .bool nl2, .string s2], formE b true]) ∧ Below w.heap.size w w')
    (hD' : ∀ w : World, Calls Tryd.prog 13 #[.string t] w fun e w' => e = .returned (.tuple #[.agg #[.int .i64 K2, .int .i64 H2, .int .i64 R2, .int .i64 F2, .int .i64 V2, .bool nl2, .string s2], .bool true]) ∧ Below w.heap.size w w') :
    Calls Tryd.prog 4 #[.agg #[.int .i64 K, .int .i64 H, .int .i64 R, .int .i64 F, .int .i64 V, .bool nl, .string s], .string t] w fun e w' => e = .returned (.bool true) ∧ Below w.heap.size w w' := by
  have HE := hide hE
  have HE' := hide hE'
  have HD := hide hD
  have HD' := hide hD'
  have HE1 := hide he1
  have HS := hide hS
  clear hE hE' hD hD' he1 hS
  go_enter Tryd.func4, Tryd.ntmps4
  go_wp2_with fail
  have hS0 := hide (HS.out.later ((Below.refl _ w).alloc (Nat.le_refl _) (.cells #[.int .i64 K, .int .i64 H, .int .i64 R, .int .i64 F, .int .i64 V, .bool nl, .string s] 28)))
  refine (alive_walk b _ (hS0.out.cell 1 _ _ rfl HE1.out)).mono ?_
  rintro e w1 ⟨rfl, hb1⟩
  have hS1 := hide (hS0.out.later hb1)
  have hm1 := hide ((MsgAt.alloc w K H R F V nl s).later hb1 (by simp))
  have hB1 : Hid (Below w.heap.size w w1) := ((Below.refl _ w).alloc (Nat.le_refl _) _).trans (hb1.mono (by simp))
  clear hb1
  obtain ⟨c0, c1, c2, c3, c4, c5, c6, _⟩ := hm1.out.cells
  go_wp2_with fail
  refine (HE.out _ (hS1.out.cell 1 _ _ rfl HE1.out)).mono ?_
  rintro e w2 ⟨rfl, hb2⟩
  have hS2 := hide (hS1.out.later hb2)
  have hm2 := hide (hm1.out.later hb2 hm1.out.lt)
  have hB2 : Hid (Below w.heap.size w w2) := hB1.out.trans (hb2.mono hB1.out.size)
  clear hb2 c0 c1 c2 c3 c4 c5 c6
  obtain ⟨c0, c1, c2, c3, c4, c5, c6, _⟩ := hm2.out.cells
  go_wp2_with fail
  refine (HE'.out _).mono ?_
  rintro e w3 ⟨rfl, hb3⟩
  have hS3 := hide (hS2.out.later hb3)
  have hB3 : Hid (Below w.heap.size w w3) := hB2.out.trans (hb3.mono hB2.out.size)
  clear hb3 c0 c1 c2 c3 c4 c5 c6
  go_wp2_with fail
  refine (HD.out _ (hS3.out.cell 1 _ _ rfl HE1.out)).mono ?_
  rintro e w4 ⟨rfl, hb4⟩
  have hS4 := hide (hS3.out.later hb4)
  have hB4 : Hid (Below w.heap.size w w4) := hB3.out.trans (hb4.mono hB3.out.size)
  clear hb4
  go_wp2_with fail
  refine (HD'.out _).mono ?_
  rintro e w5 ⟨rfl, hb5⟩
  have hS5 := hide ((hS4.out.later ((Below.refl _ w4).alloc (Nat.le_refl _) _)).later hb5)
  have hm5 := hide ((MsgAt.alloc w4 K2 H2 R2 F2 V2 nl2 s2).later hb5 (by simp))
  have hB5 : Hid (Below w.heap.size w w5) := (hB4.out.alloc hB4.out.size _).trans (hb5.mono (by have := hB4.out.size; simp; omega))
  clear hb5
  go_wp2_with fail
  have hS6 := hide (hS5.out.later ((Below.refl _ w5).alloc (Nat.le_refl _) (.cells #[.int .i64 K2, .int .i64 H2, .int .i64 R2, .int .i64 F2, .int .i64 V2, .bool nl2, .string s2] 28)))
  refine ((which_sent hS6.out 1 b HE1.out)).mono ?_
  rintro e w6 ⟨rfl, hb6⟩
  have hS7 := hide (hS6.out.later hb6)
  have hn6 := hide ((MsgAt.alloc w5 K2 H2 R2 F2 V2 nl2 s2).later hb6 (by simp))
  have hm6 := hide ((hm5.out.later (Below.alloc (Below.refl w5.heap.size w5) (Nat.le_refl _) _) hm5.out.lt).later hb6 (by have := hm5.out.lt; simp; omega))
  have hB6 : Hid (Below w.heap.size w w6) := (hB5.out.alloc hB5.out.size _).trans (hb6.mono (by have := hB5.out.size; simp; omega))
  clear hb6
  go_wp2_with fail
  refine ((which_nil hS7.out)).mono ?_
  rintro e w7 ⟨rfl, hb7⟩
  obtain ⟨c0, c1, c2, c3, c4, c5, c6, _⟩ := (hm6.out.later hb7 hm6.out.lt).cells
  obtain ⟨d0, d1, d2, d3, d4, d5, d6, _⟩ := (hn6.out.later hb7 hn6.out.lt).cells
  have hB7 : Hid (Below w.heap.size w w7) := hB6.out.trans (hb7.mono hB6.out.size)
  clear hb7
  go_wp2
  go_ret
  exact ⟨rfl, hB7.out⟩

set_option maxRecDepth 100000 in
set_option maxHeartbeats 1600000 in
theorem frames_false_false (K H R F V K2 H2 R2 F2 V2 : Int) (nl nl2 : Bool) (s s2 t g : ByteArray) (es : List Addr) (b : Addr) (w : World) (hS : Sent es w) (he1 : es[1]? = some b)
    (hE : ∀ w : World, w.cell? ⟨1, 0, none⟩ = some (.iface 188 (.pointer (some b))) → Calls Tryd.prog 10 #[.agg #[.int .i64 K, .int .i64 H, .int .i64 R, .int .i64 F, .int .i64 V, .bool nl, .string s]] w fun e w' => e = .returned (.tuple #[.string g, formE b false]) ∧ Below w.heap.size w w')
    (hE' : ∀ w : World, Calls Tryd.prog 11 #[.agg #[.int .i64 K, .int .i64 H, .int .i64 R, .int .i64 F, .int .i64 V, .bool nl, .string s]] w fun e w' => e = .returned (.tuple #[.string g, .bool false]) ∧ Below w.heap.size w w')
    (hD : ∀ w : World, w.cell? ⟨1, 0, none⟩ = some (.iface 188 (.pointer (some b))) → Calls Tryd.prog 12 #[.string t] w fun e w' => e = .returned (.tuple #[.agg #[.int .i64 K2, .int .i64 H2, .int .i64 R2, .int .i64 F2, .int .i64 V2, .bool nl2, .string s2], formE b false]) ∧ Below w.heap.size w w')
    (hD' : ∀ w : World, Calls Tryd.prog 13 #[.string t] w fun e w' => e = .returned (.tuple #[.agg #[.int .i64 K2, .int .i64 H2, .int .i64 R2, .int .i64 F2, .int .i64 V2, .bool nl2, .string s2], .bool false]) ∧ Below w.heap.size w w') :
    Calls Tryd.prog 4 #[.agg #[.int .i64 K, .int .i64 H, .int .i64 R, .int .i64 F, .int .i64 V, .bool nl, .string s], .string t] w fun e w' => e = .returned (.bool true) ∧ Below w.heap.size w w' := by
  have HE := hide hE
  have HE' := hide hE'
  have HD := hide hD
  have HD' := hide hD'
  have HE1 := hide he1
  have HS := hide hS
  clear hE hE' hD hD' he1 hS
  go_enter Tryd.func4, Tryd.ntmps4
  go_wp2_with fail
  have hS0 := hide (HS.out.later ((Below.refl _ w).alloc (Nat.le_refl _) (.cells #[.int .i64 K, .int .i64 H, .int .i64 R, .int .i64 F, .int .i64 V, .bool nl, .string s] 28)))
  refine (alive_walk b _ (hS0.out.cell 1 _ _ rfl HE1.out)).mono ?_
  rintro e w1 ⟨rfl, hb1⟩
  have hS1 := hide (hS0.out.later hb1)
  have hm1 := hide ((MsgAt.alloc w K H R F V nl s).later hb1 (by simp))
  have hB1 : Hid (Below w.heap.size w w1) := ((Below.refl _ w).alloc (Nat.le_refl _) _).trans (hb1.mono (by simp))
  clear hb1
  obtain ⟨c0, c1, c2, c3, c4, c5, c6, _⟩ := hm1.out.cells
  go_wp2_with fail
  refine (HE.out _ (hS1.out.cell 1 _ _ rfl HE1.out)).mono ?_
  rintro e w2 ⟨rfl, hb2⟩
  have hS2 := hide (hS1.out.later hb2)
  have hm2 := hide (hm1.out.later hb2 hm1.out.lt)
  have hB2 : Hid (Below w.heap.size w w2) := hB1.out.trans (hb2.mono hB1.out.size)
  clear hb2 c0 c1 c2 c3 c4 c5 c6
  obtain ⟨c0, c1, c2, c3, c4, c5, c6, _⟩ := hm2.out.cells
  go_wp2_with fail
  refine (HE'.out _).mono ?_
  rintro e w3 ⟨rfl, hb3⟩
  have hS3 := hide (hS2.out.later hb3)
  have hB3 : Hid (Below w.heap.size w w3) := hB2.out.trans (hb3.mono hB2.out.size)
  clear hb3 c0 c1 c2 c3 c4 c5 c6
  go_wp2_with fail
  refine (HD.out _ (hS3.out.cell 1 _ _ rfl HE1.out)).mono ?_
  rintro e w4 ⟨rfl, hb4⟩
  have hS4 := hide (hS3.out.later hb4)
  have hB4 : Hid (Below w.heap.size w w4) := hB3.out.trans (hb4.mono hB3.out.size)
  clear hb4
  go_wp2_with fail
  refine (HD'.out _).mono ?_
  rintro e w5 ⟨rfl, hb5⟩
  have hS5 := hide ((hS4.out.later ((Below.refl _ w4).alloc (Nat.le_refl _) _)).later hb5)
  have hm5 := hide ((MsgAt.alloc w4 K2 H2 R2 F2 V2 nl2 s2).later hb5 (by simp))
  have hB5 : Hid (Below w.heap.size w w5) := (hB4.out.alloc hB4.out.size _).trans (hb5.mono (by have := hB4.out.size; simp; omega))
  clear hb5
  go_wp2_with fail
  have hS6 := hide (hS5.out.later ((Below.refl _ w5).alloc (Nat.le_refl _) (.cells #[.int .i64 K2, .int .i64 H2, .int .i64 R2, .int .i64 F2, .int .i64 V2, .bool nl2, .string s2] 28)))
  refine ((which_sent hS6.out 1 b HE1.out)).mono ?_
  rintro e w6 ⟨rfl, hb6⟩
  have hS7 := hide (hS6.out.later hb6)
  have hn6 := hide ((MsgAt.alloc w5 K2 H2 R2 F2 V2 nl2 s2).later hb6 (by simp))
  have hm6 := hide ((hm5.out.later (Below.alloc (Below.refl w5.heap.size w5) (Nat.le_refl _) _) hm5.out.lt).later hb6 (by have := hm5.out.lt; simp; omega))
  have hB6 : Hid (Below w.heap.size w w6) := (hB5.out.alloc hB5.out.size _).trans (hb6.mono (by have := hB5.out.size; simp; omega))
  clear hb6
  go_wp2_with fail
  refine ((which_sent hS7.out 1 b HE1.out)).mono ?_
  rintro e w7 ⟨rfl, hb7⟩
  obtain ⟨c0, c1, c2, c3, c4, c5, c6, _⟩ := (hm6.out.later hb7 hm6.out.lt).cells
  obtain ⟨d0, d1, d2, d3, d4, d5, d6, _⟩ := (hn6.out.later hb7 hn6.out.lt).cells
  have hB7 : Hid (Below w.heap.size w w7) := hB6.out.trans (hb7.mono hB6.out.size)
  clear hb7
  go_wp2
  go_ret
  exact ⟨rfl, hB7.out⟩

theorem frames_walk (K H R F V : Int) (nl : Bool) (s t : ByteArray) (es : List Addr) (w : World) (hS : Sent es w) (hs : s.size ≤ maxLen) (ht : t.size ≤ maxLen) (hV : V ≤ 9223372036854775807) (hU : -9223372036854775808 ≤ V) :
    Calls Tryd.prog 4 #[.agg #[.int .i64 K, .int .i64 H, .int .i64 R, .int .i64 F, .int .i64 V, .bool nl, .string s], .string t] w fun e w' => e = .returned (.bool true) ∧ Below w.heap.size w w' := by
  obtain ⟨b, he1⟩ : ∃ b, es[1]? = some b := by
    have hl : es.length = 12 := hS.len
    exact ⟨es[1], List.getElem?_eq_getElem (by omega)⟩
  obtain ⟨K2, H2, R2, F2, V2, nl2, s2, ok, _, hD', hD⟩ := decode_both t ht
  have hE := fun w => synodEncode_any K H R F V nl s b w hs
  have hE' := fun w => refEncode_any K H R F V nl s w hs hV hU
  have hDs := fun w => synodDecode_of t K2 H2 R2 F2 V2 nl2 s2 ok b w (hD b)
  generalize encS K H R F V nl s = g at hE hE'
  cases hx : hasB K H R F V nl s.size <;> cases ok <;> simp only [hx] at hE hE'
  · exact frames_false_false K H R F V K2 H2 R2 F2 V2 nl nl2 s s2 t g es b w hS he1 hE hE' hDs hD'
  · exact frames_false_true K H R F V K2 H2 R2 F2 V2 nl nl2 s s2 t g es b w hS he1 hE hE' hDs hD'
  · exact frames_true_false K H R F V K2 H2 R2 F2 V2 nl nl2 s s2 t g es b w hS he1 hE hE' hDs hD'
  · exact frames_true_true K H R F V K2 H2 R2 F2 V2 nl nl2 s s2 t g es b w hS he1 hE hE' hDs hD'

end Go.Proofs.YtcfjhbcpjpgodaaDoor
