/- Proved here: small facts on a message that lies in memory, field by field, and on what a later world keeps of it. -/
import Derived.Test.YtcfjhbcpjpgodaaGreatDoorJ2
import Derived.Test.YtcfjhbcpjpgodaaGreatDoorShelfA
import Derived.Test.YtcfjhbcpjpgodaaGreatDoorJ20
import Derived.Deep.RegionHeld
import Derived.Deep.DeepCutAuto
namespace Go.Proofs.YtcfjhbcpjpgodaaGreatDoor
open Go.RowKit

theorem bcell {W w1 : World} (hb : Below W.heap.size W w1) : (∀ b o, b < W.heap.size → w1.cell? ⟨b, o, none⟩ = W.cell? ⟨b, o, none⟩) ∧ (∀ b o, b < W.heap.size → w1.frozen? ⟨b, o, none⟩ = W.frozen? ⟨b, o, none⟩) :=
 ⟨fun b o h => hb.cell (p := ⟨b, o, none⟩) h, fun b o h => hb.frozen (p := ⟨b, o, none⟩) h⟩

def MsgAt (w : World) (g : Nat) (K H R F V : Int) (nl : Bool) (s : ByteArray) : Prop :=
 w.heap[g]? = some (.cells #[.int .i64 K, .int .i64 H, .int .i64 R, .int .i64 F, .int .i64 V, .bool nl, .string s] 57 (0, 0))

theorem MsgAt.alloc (w : World) (K H R F V : Int) (nl : Bool) (s : ByteArray) : MsgAt (w.alloc (.cells #[.int .i64 K, .int .i64 H, .int .i64 R, .int .i64 F, .int .i64 V, .bool nl, .string s] 57)) w.heap.size K H R F V nl s := by
 unfold MsgAt World.alloc
 simp

theorem MsgAt.alloc2 (w : World) (o : Obj) (K H R F V : Int) (nl : Bool) (s : ByteArray) : MsgAt ((w.alloc o).alloc (.cells #[.int .i64 K, .int .i64 H, .int .i64 R, .int .i64 F, .int .i64 V, .bool nl, .string s] 57)) (w.heap.size + 1) K H R F V nl s := by
 have h := MsgAt.alloc (w.alloc o) K H R F V nl s
 rw [World.size_alloc] at h
 exact h

theorem MsgAt.lt {w : World} {g : Nat} {K H R F V : Int} {nl : Bool} {s : ByteArray} (h : MsgAt w g K H R F V nl s) : g < w.heap.size := by
 rcases Nat.lt_or_ge g w.heap.size with h' | h'
 · exact h'
 · unfold MsgAt at h
   simp [Array.getElem?_eq_none h'] at h

theorem MsgAt.later {w w' : World} {B g : Nat} {K H R F V : Int} {nl : Bool} {s : ByteArray} (h : MsgAt w g K H R F V nl s) (hb : Below B w w') (hg : g < B) : MsgAt w' g K H R F V nl s := by
 unfold MsgAt at h ⊢
 rw [hb.block g hg]
 exact h

theorem MsgAt.drew {w : World} {g : Nat} {K H R F V : Int} {nl : Bool} {s : ByteArray} (h : MsgAt w g K H R F V nl s) : MsgAt w.drew g K H R F V nl s := h
theorem MsgAt.cells {w : World} {g : Nat} {K H R F V : Int} {nl : Bool} {s : ByteArray} (h : MsgAt w g K H R F V nl s) :
 w.cell? ⟨g, 0, none⟩ = some (.int .i64 K) ∧ w.cell? ⟨g, 1, none⟩ = some (.int .i64 H) ∧ w.cell? ⟨g, 2, none⟩ = some (.int .i64 R) ∧ w.cell? ⟨g, 3, none⟩ = some (.int .i64 F) ∧ w.cell? ⟨g, 4, none⟩ = some (.int .i64 V) ∧ w.cell? ⟨g, 5, none⟩ = some (.bool nl) ∧ w.cell? ⟨g, 6, none⟩ = some (.string s) ∧
 w.frozen? ⟨g, 0, none⟩ = false ∧ w.frozen? ⟨g, 1, none⟩ = false ∧ w.frozen? ⟨g, 2, none⟩ = false ∧ w.frozen? ⟨g, 3, none⟩ = false ∧ w.frozen? ⟨g, 4, none⟩ = false ∧ w.frozen? ⟨g, 5, none⟩ = false ∧ w.frozen? ⟨g, 6, none⟩ = false := by
 unfold MsgAt at h
 simp [World.cell?, World.frozen?, h]

theorem MsgAt.setV {w : World} {g : Nat} {K H R F V : Int} {nl : Bool} {s : ByteArray} (h : MsgAt w g K H R F V nl s) (V' : Int) : MsgAt (w.setCell ⟨g, 4, none⟩ (.int .i64 V')) g K H R F V' nl s := by
 unfold MsgAt at h ⊢
 simp [World.setCell, Array.getElem?_modify, h]

theorem MsgAt.setNl {w : World} {g : Nat} {K H R F V : Int} {nl : Bool} {s : ByteArray} (h : MsgAt w g K H R F V nl s) (nl' : Bool) : MsgAt (w.setCell ⟨g, 5, none⟩ (.bool nl')) g K H R F V nl' s := by
 unfold MsgAt at h ⊢
 simp [World.setCell, Array.getElem?_modify, h]

theorem MsgAt.setOther {w : World} {g : Nat} {K H R F V : Int} {nl : Bool} {s : ByteArray} (h : MsgAt w g K H R F V nl s) (a : Addr) (v : Value) (ha : g ≠ a.block) : MsgAt (w.setCell a v) g K H R F V nl s := by
 unfold MsgAt at h ⊢
 rw [Below.heap_setCell _ _ _ _ ha]
 exact h

theorem MsgAt.setAll {w : World} {g : Nat} {K H R F V : Int} {nl : Bool} {s : ByteArray} (h : MsgAt w g K H R F V nl s) (K' H' R' F' V' : Int) (nl' : Bool) (s' : ByteArray) :
 MsgAt (((((((w.setCell ⟨g, 0, none⟩ (.int .i64 K')).setCell ⟨g, 1, none⟩ (.int .i64 H')).setCell ⟨g, 2, none⟩ (.int .i64 R')).setCell ⟨g, 3, none⟩ (.int .i64 F')).setCell ⟨g, 4, none⟩ (.int .i64 V')).setCell ⟨g, 5, none⟩ (.bool nl')).setCell ⟨g, 6, none⟩ (.string s')) g K' H' R' F' V' nl' s' := by
 unfold MsgAt at h ⊢
 simp [World.setCell, Array.getElem?_modify, h]

theorem below_setAll {w0 w : World} {B g : Nat} (h : Below B w0 w) (hg : B ≤ g) (v0 v1 v2 v3 v4 v5 v6 : Value) :
 Below B w0 (((((((w.setCell ⟨g, 0, none⟩ v0).setCell ⟨g, 1, none⟩ v1).setCell ⟨g, 2, none⟩ v2).setCell ⟨g, 3, none⟩ v3).setCell ⟨g, 4, none⟩ v4).setCell ⟨g, 5, none⟩ v5).setCell ⟨g, 6, none⟩ v6) :=
 ((((((h.setCell (p := ⟨g, 0, none⟩) hg _).setCell (p := ⟨g, 1, none⟩) hg _).setCell (p := ⟨g, 2, none⟩) hg _).setCell (p := ⟨g, 3, none⟩) hg _).setCell (p := ⟨g, 4, none⟩) hg _).setCell (p := ⟨g, 5, none⟩) hg _).setCell (p := ⟨g, 6, none⟩) hg _

theorem MsgAt.setAllOther {w : World} {g g' : Nat} {K H R F V : Int} {nl : Bool} {s : ByteArray} (h : MsgAt w g K H R F V nl s) (hg : g ≠ g') (v0 v1 v2 v3 v4 v5 v6 : Value) :
 MsgAt (((((((w.setCell ⟨g', 0, none⟩ v0).setCell ⟨g', 1, none⟩ v1).setCell ⟨g', 2, none⟩ v2).setCell ⟨g', 3, none⟩ v3).setCell ⟨g', 4, none⟩ v4).setCell ⟨g', 5, none⟩ v5).setCell ⟨g', 6, none⟩ v6) g K H R F V nl s :=
 ((((((h.setOther _ _ hg).setOther _ _ hg).setOther _ _ hg).setOther _ _ hg).setOther _ _ hg).setOther _ _ hg).setOther _ _ hg

theorem form_no {k0 k1 k2 k3 k4 k5 : Int} {s : ByteArray} {b : Addr} (h : decB k0 k1 k2 k3 k4 k5 s.size = false) :
 Ending.returned (.tuple #[.agg #[.int .i64 0, .int .i64 0, .int .i64 0, .int .i64 0, .int .i64 0, .bool false, .string ⟨#[]⟩], .iface 294 (.pointer (some b))]) = .returned (.tuple #[decM k0 k1 k2 k3 k4 k5 s, formE b (decB k0 k1 k2 k3 k4 k5 s.size)]) := by
 unfold decM formE
 rw [h, if_neg (by simp), if_neg (by simp)]

theorem form_yes {k0 k1 k2 k3 k4 k5 V : Int} {nl : Bool} {s : ByteArray} {b : Addr} (h : decB k0 k1 k2 k3 k4 k5 s.size = true) (hv : vOf k0 k4 = V) (hn : nlOf k0 k4 = nl) :
 Ending.returned (.tuple #[.agg #[.int .i64 k0, .int .i64 k1, .int .i64 k2, .int .i64 k3, .int .i64 V, .bool nl, .string s], .nilIface]) = .returned (.tuple #[decM k0 k1 k2 k3 k4 k5 s, formE b (decB k0 k1 k2 k3 k4 k5 s.size)]) := by
 unfold decM formE
 rw [h, if_pos rfl, if_pos rfl, hv, hn]

theorem clone_any (s : ByteArray) (w : World) (h : s.size ≤ 281474976710656) :
 Calls Tryz.prog 82 #[.string s] w fun e w' => e = .returned (.string s) ∧ Below w.heap.size w w' := by
 go_enter Tryz.func82, Tryz.ntmps82
 go_wp2_with (go_at_call 129; refine (Tryz.stringslite_Clone s _ h).mono ?_; rintro e w1 ⟨rfl, hb⟩)
 go_ret
 exact ⟨rfl, hb⟩

set_option maxRecDepth 100000 in
set_option maxHeartbeats 800000 in
theorem wireDecode_short (t : ByteArray) (b : Addr) (w : World) (h : t.size < 6) (hb : w.cell? ⟨2, 0, none⟩ = some (.iface 294 (.pointer (some b)))) :
 Calls Tryz.prog 102 #[.string t] w fun e w' => e = .returned (.tuple #[.agg #[.int .i64 0, .int .i64 0, .int .i64 0, .int .i64 0, .int .i64 0, .bool false, .string ⟨#[]⟩], .iface 294 (.pointer (some b))]) ∧ Below w.heap.size w w' := by
 have h' : (t.size : Int) < 6 := by omega
 have hc := cell?_alloc_old (.cells #[.int .i64 0, .int .i64 0, .int .i64 0, .int .i64 0, .int .i64 0, .bool false, .string ⟨#[]⟩] 57) hb
 go_enter Tryz.func102, Tryz.ntmps102
 go_wp2
 go_region
 go_wp2
 exact bodyPost_ret (v := .tuple #[.agg #[.int .i64 0, .int .i64 0, .int .i64 0, .int .i64 0, .int .i64 0, .bool false, .string ⟨#[]⟩], .iface 294 (.pointer (some b))]) (by simp [results, Tryz.results102, go_sem]) rfl ⟨rfl, ((Below.refl _ _).alloc (Nat.le_refl _) _).drew⟩

set_option maxRecDepth 100000 in
set_option maxHeartbeats 800000 in
theorem wireDecode_size (t : ByteArray) (k0 k1 k2 k3 k4 k5 : Int) (s : ByteArray) (b : Addr) (w : World) (hp : Parts t k0 k1 k2 k3 k4 k5 s) (h5 : (s.size : Int) ≠ k5) (hb : w.cell? ⟨2, 0, none⟩ = some (.iface 294 (.pointer (some b)))) :
 Calls Tryz.prog 102 #[.string t] w fun e w' => e = .returned (.tuple #[.agg #[.int .i64 0, .int .i64 0, .int .i64 0, .int .i64 0, .int .i64 0, .bool false, .string ⟨#[]⟩], .iface 294 (.pointer (some b))]) ∧ Below w.heap.size w w' := by
 have a5 := hp.at5
 have b5 := hp.b5
 have h6 : ¬ (t.size : Int) < 6 := by have := hp.size; omega
 have ht : ((t.size : Int) != 6 + k5) = true := by have := hp.size; simp; omega
 have hc := cell?_alloc_old (.cells #[.int .i64 0, .int .i64 0, .int .i64 0, .int .i64 0, .int .i64 0, .bool false, .string ⟨#[]⟩] 57) hb
 clear hp h5
 go_enter Tryz.func102, Tryz.ntmps102
 go_wp2
 go_region
 go_wp2
 exact bodyPost_ret (v := .tuple #[.agg #[.int .i64 0, .int .i64 0, .int .i64 0, .int .i64 0, .int .i64 0, .bool false, .string ⟨#[]⟩], .iface 294 (.pointer (some b))]) (by simp [results, Tryz.results102, go_sem]) rfl ⟨rfl, ((Below.refl _ _).alloc (Nat.le_refl _) _).drew⟩

end Go.Proofs.YtcfjhbcpjpgodaaGreatDoor
