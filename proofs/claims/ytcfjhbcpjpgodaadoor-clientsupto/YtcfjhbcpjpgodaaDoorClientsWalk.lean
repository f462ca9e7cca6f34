/- Proved here: the law of the clients answers true, whatever the genesis and the tries, in every world in which the listed variables lie as they should, and leaves all old memory as it was. -/
import Derived.Test.YtcfjhbcpjpgodaaDoorClientsInv
import Derived.Test.YtcfjhbcpjpgodaaDoorTryRow
import Derived.Test.YtcfjhbcpjpgodaaDoorJ45
import Derived.Test.YtcfjhbcpjpgodaaDoorJ46
import Derived.Test.YtcfjhbcpjpgodaaDoorAlive
import Derived.Test.YtcfjhbcpjpgodaaDoorJ48
import Derived.Test.YtcfjhbcpjpgodaaDoorJ3
import Derived.BigQuiet
import Derived.Deep.CutRange
namespace Go.Proofs.YtcfjhbcpjpgodaaDoor
open Go.RowKit

theorem Tryd.buildRClient (rb : Nat) (y : Nat → Int) (W : World) : (Instr.build 75 #[(0, .pointer (some ⟨rb, 0, none⟩)), (1, .agg (regA y))]).run Tryd.prog W = .ok (.agg (clientA rb y 0)) W := by kernel_rfl
theorem Tryd.boxRClient (rb : Nat) (y : Nat → Int) (h : Int) (W : World) : (Instr.box 75 (.agg (clientA rb y h))).run Tryd.prog W = .ok (.pointer (some ⟨W.heap.size, 0, none⟩)) (W.alloc (.cells (clientA rb y h) 75)) := by kernel_rfl
theorem Tryd.sizeTry : (Tryd.prog.info? 78).map (·.size) = some 9 := by kernel_rfl
theorem Tryd.sizeMsgK : (Tryd.prog.info? 28).map (·.size) = some 7 := by kernel_rfl
theorem Tryd.sizeToldK : (Tryd.prog.info? 48).map (·.size) = some 3 := by kernel_rfl

/-- What the law holds from try to try. -/
structure LoopI (base rb cx cy bk : Nat) (ks : Nat → Nat) (kv : Value) (w0 : World) (k : Nat) (F : Nat → Prop) (sg : Nat → List ByteArray) (x : Nat → Int) (h : Int) (w : World) : Prop where
  cl : ClI base rb cx cy ks kv F sg x h x h w
  book : BookI (fun b => F b ∨ b = cx ∨ b = cy) bk (bk + 1) (2 * k) w
  bklow : cx < bk ∧ cy < bk ∧ base ≤ bk
  sgl : ∀ i, (sg i).length ≤ k * 1048584
  dom : Dom x
  pow : 0 < sumTo x 8
  h0 : 0 ≤ h
  h12 : h ≤ 12
  below : Below w0.heap.size w0 w

theorem LoopI.later {base rb cx cy bk : Nat} {ks : Nat → Nat} {kv : Value} {w0 : World} {k : Nat} {F : Nat → Prop} {sg : Nat → List ByteArray} {x : Nat → Int} {h : Int} {w w' : World} (hI : LoopI base rb cx cy bk ks kv w0 k F sg x h w) (hb : Below w.heap.size w w') : LoopI base rb cx cy bk ks kv w0 k F sg x h w' :=
  ⟨hI.cl.below hb, hI.book.below hb, hI.bklow, hI.sgl, hI.dom, hI.pow, hI.h0, hI.h12, hI.below.trans (hb.mono hI.below.size)⟩
theorem LoopI.start {base rb cx : Nat} {ks : Nat → Nat} {kv : Value} {F : Nat → Prop} {y : Nat → Int} {w0 w6 : World} (hr : RgI base rb ks kv F (fun _ => []) w6) (hc : ClientAt w6 cx rb y 0) (hcx : base ≤ cx) (hd : Dom y) (hp : 0 < sumTo y 8) (hb : Below w0.heap.size w0 w6) :
    LoopI base rb cx w6.heap.size (w6.heap.size + 1) ks kv w0 0 F (fun _ => []) y 0 ((w6.alloc (.cells (clientA rb y 0) 75)).alloc (.cells #[.slice none 0 0, .slice none 0 0] 44)) := by
  have e1 : (w6.alloc (.cells (clientA rb y 0) 75)).heap.size = w6.heap.size + 1 := by simp
  have h1 : Below w6.heap.size w6 (w6.alloc (.cells (clientA rb y 0) 75)) := (Below.refl _ w6).alloc (Nat.le_refl _) _
  have h2 : Below w6.heap.size w6 ((w6.alloc (.cells (clientA rb y 0) 75)).alloc (.cells #[.slice none 0 0, .slice none 0 0] 44)) := h1.alloc (by rw [e1]; omega) _
  have hcl : cx < w6.heap.size := row_lt0 hc
  refine ⟨ClI.of_rg (hr.below h2) (hc.keep h2) ?_ hcx (by omega), BookI.new ?_, ⟨by omega, by omega, by omega⟩, fun i => by simp, hd, hp, by omega, by omega, hb.trans (h2.mono hb.size)⟩
  · unfold RClientAt
    rw [Below.heap_alloc _ _ w6.heap.size (by rw [e1]; omega)]
    exact heap_alloc_new w6 _
  · rw [← e1]
    exact heap_alloc_new _ _

/-- A key in its row. -/
theorem keys_atK {w : World} {base n kc : Nat} {kp : Option Addr} {ks : Nat → Nat} (h : w.ownsRow base 79 1 (.slice kp n kc) n (keyL ks n)) (f : Nat) (hf : f < n) : ∃ g, kp = some ⟨g, 0, none⟩ ∧ w.cell? ⟨g, f, none⟩ = some (.pointer (some ⟨ks f, 0, none⟩)) := by
  rcases h.2 with ⟨_, h0⟩ | ⟨g, cap, cur, e0, hb, hg, hnc, hcm, hcs, ht⟩
  · omega
  · cases e0
    refine ⟨g, rfl, ?_⟩
    rw [cell_of_row w g f _ _ _ hg]
    have e1 : (cur.toList.take (n * 1))[f]? = (keyL ks n)[f]? := by rw [ht]
    rw [List.getElem?_take, if_pos (by omega)] at e1
    rw [← Array.getElem?_toList, e1]
    simp [keyL, hf]

/-- What the law holds inside a try, while it lays its frames. -/
structure InI (base cx cy bk tb : Nat) (C : Array Value) (ks : Nat → Nat) (kv : Value) (w0 : World) (x : Nat → Int) (h : Int) (B K N M : Nat) (v : Value) (F : Nat → Prop) (sg : Nat → List ByteArray) (L : List ByteArray) (w : World) : Prop where
  tr : TrI base base cx cy bk tb C ks kv F sg x h x h B K v L w
  len : L.length ≤ N
  sgl : ∀ i, (sg i).length ≤ M
  siz : ∀ t ∈ L, t.size ≤ maxLen
  below : Below w0.heap.size w0 w
def InP (base cx cy bk tb : Nat) (C : Array Value) (ks : Nat → Nat) (kv : Value) (w0 : World) (x : Nat → Int) (h : Int) (B K N M : Nat) (v : Value) (w : World) : Prop := ∃ F sg L, InI base cx cy bk tb C ks kv w0 x h B K N M v F sg L w

theorem InI.later {base cx cy bk tb : Nat} {C : Array Value} {ks : Nat → Nat} {kv : Value} {w0 : World} {x : Nat → Int} {h : Int} {B K N M : Nat} {v : Value} {F : Nat → Prop} {sg : Nat → List ByteArray} {L : List ByteArray} {w w' : World} (hI : InI base cx cy bk tb C ks kv w0 x h B K N M v F sg L w) (hb : Below w.heap.size w w') : InI base cx cy bk tb C ks kv w0 x h B K N M v F sg L w' :=
  ⟨hI.tr.below hb, hI.len, hI.sgl, hI.siz, hI.below.trans (hb.mono hI.below.size)⟩
theorem InI.wide {base cx cy bk tb : Nat} {C : Array Value} {ks : Nat → Nat} {kv : Value} {w0 : World} {x : Nat → Int} {h : Int} {B K N M N' M' : Nat} {v : Value} {F : Nat → Prop} {sg : Nat → List ByteArray} {L : List ByteArray} {w : World} (hI : InI base cx cy bk tb C ks kv w0 x h B K N M v F sg L w) (h1 : N ≤ N') (h2 : M ≤ M') : InP base cx cy bk tb C ks kv w0 x h B K N' M' v w :=
  ⟨F, sg, L, hI.tr, Nat.le_trans hI.len h1, fun i => Nat.le_trans (hI.sgl i) h2, hI.siz, hI.below⟩
theorem InI.signed {base cx cy bk tb : Nat} {C : Array Value} {ks : Nat → Nat} {kv : Value} {w0 : World} {x : Nat → Int} {h : Int} {B K N M f : Nat} {t : ByteArray} {v : Value} {F : Nat → Prop} {sg : Nat → List ByteArray} {L : List ByteArray} {w w' : World} (hI : InI base cx cy bk tb C ks kv w0 x h B K N M v F sg L w) (hB : w0.heap.size ≤ base) (hs : SignP F base 8 (signR sg f t) w w') : ∃ F', InI base cx cy bk tb C ks kv w0 x h B K N (M + 1) v F' (signR sg f t) L w' := by
  obtain ⟨⟨F', h1⟩, hb⟩ := hI.tr.signed hs
  refine ⟨F', h1, hI.len, fun i => ?_, hI.siz, hI.below.trans (hb.mono hB)⟩
  unfold signR
  split
  · rw [List.length_append]
    have := hI.sgl f
    simp
    omega
  · have := hI.sgl i
    omega
theorem InI.more {base cx cy bk tb : Nat} {C : Array Value} {ks : Nat → Nat} {kv : Value} {w0 : World} {x : Nat → Int} {h : Int} {B K N M : Nat} {t : ByteArray} {v v' : Value} {F : Nat → Prop} {sg : Nat → List ByteArray} {L : List ByteArray} {w w' : World} (hI : InI base cx cy bk tb C ks kv w0 x h B K N M v F sg L w) (hB : w0.heap.size ≤ base) (hb : Below w.heap.size w w') (ht : t.size ≤ maxLen) {w'' : World}
    (hown : w''.ownsRow B 9 1 v' (L.length + 1) (L.map .string ++ [.string t])) (hg : w'.grownBy w'' v.ownBlock) (hat : v'.ownBlock = v.ownBlock ∨ v'.ownBlock = some w'.heap.size) : InI base cx cy bk tb C ks kv w0 x h B K (N + 1) M v' F sg (L ++ [t]) w'' := by
  have h1 := hI.later hb
  refine ⟨h1.tr.more (L' := L ++ [t]) (by rw [List.length_append, List.map_append]; exact hown) hg hat, ?_, hI.sgl, fun s hs => ?_, h1.below.grown hg ?_ (fun k hk => ?_)⟩
  · rw [List.length_append]
    have := hI.len
    simp
    omega
  · rcases List.mem_append.1 hs with h | h
    · exact hI.siz s h
    · rw [List.mem_singleton] at h
      rw [h]
      exact ht
  · exact h1.below.size
  · exact Nat.le_trans hB (Nat.le_trans h1.tr.bnd.2 (h1.tr.all.lt k hk).1)

theorem enc_small {K H R F V : Int} {nl : Bool} {s : ByteArray} (h : hasB K H R F V nl s.size = true) : (encS K H R F V nl s).size ≤ maxLen := by
  have hb := of_decide_eq_true h
  rw [encS, if_pos h]
  unfold frameOf
  rw [ByteArray.size_append, strOfNums_size]
  unfold maxLen
  simp
  omega

set_option linter.unusedSimpArgs false in
set_option maxRecDepth 100000 in
set_option maxHeartbeats 51200000 in
theorem clients_walk (g : Nat → Int) (p : Option Addr) (n cap : Nat) (ts : Nat → TryV) (tp : Option Addr) (tn tcap : Nat) (es : List Addr) (mx : Int) (w : World) (hn : n ≤ 1048576) (htn : tn ≤ 1048576) (hp : NilOr p n cap)
    (hg : Lies w w.heap.size p n (fun i => .int .i64 (g i))) (ht : TriesAt w w.heap.size tp tn ts) (hok : ∀ i, i < tn → TryOk w w.heap.size (ts i)) (hS : Sent es w) (hT : TypAt w) (hmx : w.cell? ⟨13, 0, none⟩ = some (.int .i64 mx)) :
    Calls Tryd.prog 6 #[.slice p n cap, .slice tp tn tcap] w fun e w' => e = .returned (.bool true) ∧ Below w.heap.size w w' := by
  obtain ⟨i9, hi9, hz0, hz1, hz2⟩ := info_parts Tryd.infoString
  have hes : es.length = 12 := hS.len
  obtain ⟨a0, e0⟩ : ∃ a, es[0]? = some a := ⟨_, List.getElem?_eq_getElem (by omega)⟩
  obtain ⟨a1, e1⟩ : ∃ a, es[1]? = some a := ⟨_, List.getElem?_eq_getElem (by omega)⟩
  obtain ⟨a2, e2⟩ : ∃ a, es[2]? = some a := ⟨_, List.getElem?_eq_getElem (by omega)⟩
  obtain ⟨a9, e9⟩ : ∃ a, es[9]? = some a := ⟨_, List.getElem?_eq_getElem (by omega)⟩
  obtain ⟨a11, e11⟩ : ∃ a, es[11]? = some a := ⟨_, List.getElem?_eq_getElem (by omega)⟩
  have HE0 := hide e0
  have HE1 := hide e1
  have HE2 := hide e2
  have HE9 := hide e9
  have HE11 := hide e11
  have HN := hide hn
  have HTN := hide htn
  have HP := hide hp
  have HG := hide hg
  have HT := hide ht
  have HOK := hide hok
  have HS := hide hS
  have HTY := hide hT
  have HMX := hide hmx
  have hml : 13 < w.heap.size := World.block_lt_of_cell? _ _ hmx
  have HML := hide hml
  have HAL := hide (alive_walk a1 w (HS.out.cell 1 _ _ rfl HE1.out))
  clear e0 e1 e2 e9 e11 hn htn hp hg ht hok hS hT hmx hes hml
  go_enter Tryd.func6, Tryd.ntmps6
  go_wp2_with fail
  refine HAL.out.mono ?_
  rintro e w1 ⟨rfl, hb1⟩
  have HB1 := hide hb1
  clear hb1 HAL
  have HNW : Hid (Calls Tryd.prog 25 #[.int .i64 8] w1 fun e w' => ∃ (ov : Value) (kp : Option Addr) (kc : Nat) (ks : Nat → Nat), e = .returned (.tuple #[.pointer (some ⟨w1.heap.size, 0, none⟩), .slice kp 8 kc]) ∧
      RingI (fun k => k = w1.heap.size ∨ some k = ov.ownBlock) w1.heap.size 8 (fun _ => []) w' ∧ w'.ownsRow (w1.heap.size + 1) 39 1 ov 8 (List.replicate 8 (.slice none 0 0)) ∧
      w'.ownsRow (w1.heap.size + 1) 79 1 (.slice kp 8 kc) 8 (keyL ks 8) ∧ (∀ i, i < 8 → w1.heap.size < ks i ∧ KeyAt w' (ks i) w1.heap.size i) ∧ Below w1.heap.size w1 w') := ringNew_any 8 w1 (by omega) (by omega)
  go_wp2_with fail
  refine HNW.out.mono ?_
  rintro e w2 ⟨ov, kp, kc, ks, rfl, hr, ho, hk, hks, hb2⟩
  have h12 : w1.heap.size < w2.heap.size := by obtain ⟨ob, cap, cur, iv, h1, _⟩ := hr; exact row_lt0 h1
  obtain ⟨F0, hrg⟩ := RgI.start hr ho hk hks h12
  have HRG := hide hrg
  have HB2 : Hid (Below w.heap.size w w2) := HB1.out.trans (hb2.mono HB1.out.size)
  have H12 := hide h12
  have hbase : w.heap.size ≤ w1.heap.size := HB1.out.size
  have HBASE := hide hbase
  obtain ⟨base, hbs⟩ : ∃ z, z = w1.heap.size := ⟨_, rfl⟩
  rw [← hbs] at HRG HBASE H12 ⊢
  clear hr ho hk hks hb2 HNW hrg h12 hbase hbs HB1 w1 ov
  have HG2 := hide ((HG.out.below HB2.out).more HB2.out.size)
  go_wp2_with fail
  refine (roomy_ready g p n cap w2 (by have := HN.out; omega) HP.out HG2.out).mono ?_
  rintro e w3 ⟨⟨gp, gc, rfl, hl3, hk3⟩, hb3⟩
  have HL3 := hide hl3
  have HK3 := hide hk3
  have HRG3 := hide (HRG.out.below hb3)
  have HB3 : Hid (Below w.heap.size w w3) := HB2.out.trans (hb3.mono HB2.out.size)
  have H3 : Hid (base < w3.heap.size) := Nat.lt_of_lt_of_le H12.out hb3.size
  clear hl3 hk3 hb3 HG2 HB2 HRG H12 w2
  have HS3 := hide (HS.out.later HB3.out)
  obtain ⟨z, hz⟩ : ∃ z, z = genR g n := ⟨_, rfl⟩
  obtain ⟨y, o⟩ := z
  have HZ := hide hz
  clear hz
  have z0 := regA_zero
  cases o with
  | false =>
    have HFW := hide (follow_no base g gp n gc a0 w3 HL3.out (HS3.out.cell 0 _ _ rfl HE0.out) (by rw [← HZ.out]))
    go_wp2_with fail
    refine HFW.out.mono ?_
    rintro e w4 ⟨rfl, hb4⟩
    have HB34 := hide hb4
    have HB4 : Hid (Below w.heap.size w w4) := HB3.out.trans (hb4.mono HB3.out.size)
    clear hb4 HFW
    have HGN : Hid (Calls Tryd.prog 27 #[.slice p n cap] w4 fun e w' => e = .returned (.tuple #[.agg (regA y), .bool false]) ∧ Below w4.heap.size w4 w') := by
      have h := genesis_any g p n cap w4 ((HG.out.below HB4.out).more HB4.out.size)
      rw [← HZ.out] at h
      exact h
    go_wp2_with fail
    refine HGN.out.mono ?_
    rintro e w5 ⟨rfl, hb5⟩
    have HB35 : Hid (Below w3.heap.size w3 w5) := HB34.out.trans (hb5.mono HB34.out.size)
    clear hb5 HGN
    go_wp2_with (first | (refine wpList_store_reg rfl 54 _ _ rfl w5.heap.size y rfl rfl 54 (regA reg0) (heap_alloc_new w5 _) (regA_size _) Tryd.sizeReg ?_; intro w6 hq6 ho6; have HB36 : Hid (Below w3.heap.size w3 w6) := HB35.out.trans ((((Below.refl _ w5).alloc (Nat.le_refl _) _).trans (ho6.below (Nat.le_refl _))).mono HB35.out.size); clear hq6 ho6) | fail)
    refine (HK3.out w6 HB36.out).mono ?_
    rintro e wx ⟨rfl, hwx⟩
    have hwy := hwx.symm
    clear hwx
    subst hwy
    have HB6 : Hid (Below w.heap.size w w6) := HB3.out.trans (HB36.out.mono HB3.out.size)
    have HWH : Hid (Calls Tryd.prog 8 #[.iface 188 (.pointer (some a0))] w6 fun e w' => e = .returned (.int .i64 1) ∧ Below w6.heap.size w6 w') := by
      have h := which_sent (HS.out.later HB6.out) 0 a0 HE0.out
      unfold Hid
      simpa using h
    go_wp2_with fail
    refine HWH.out.mono ?_
    rintro e w7 ⟨rfl, hb7⟩
    have HB7 : Hid (Below w.heap.size w w7) := HB6.out.trans (hb7.mono HB6.out.size)
    clear hb7 HWH
    go_wp2
    go_ret
    exact ⟨rfl, HB7.out⟩
  | true =>
    have HDY : Hid (Dom y) := by have h := Dom.gen g n; rw [← HZ.out] at h; exact h
    have HPY : Hid (0 < sumTo y 8) := by have h := gen_power (g := g) (n := n) (by rw [← HZ.out]); rw [← HZ.out] at h; exact h
    have HFW := hide (follow_yes base g gp n gc a0 y w3 HL3.out (HS3.out.cell 0 _ _ rfl HE0.out) HZ.out.symm)
    go_wp2_with fail
    refine HFW.out.mono ?_
    rintro e w4 ⟨cx, hcx, rfl, hcl, hb4⟩
    have HCX : Hid (base ≤ cx) := Nat.le_trans (Nat.le_of_lt H3.out) hcx
    have HCL := hide hcl
    have HB34 := hide hb4
    have HB4 : Hid (Below w.heap.size w w4) := HB3.out.trans (hb4.mono HB3.out.size)
    clear hb4 HFW hcx hcl
    have HGN : Hid (Calls Tryd.prog 27 #[.slice p n cap] w4 fun e w' => e = .returned (.tuple #[.agg (regA y), .bool true]) ∧ Below w4.heap.size w4 w') := by
      have h := genesis_any g p n cap w4 ((HG.out.below HB4.out).more HB4.out.size)
      rw [← HZ.out] at h
      exact h
    go_wp2_with fail
    refine HGN.out.mono ?_
    rintro e w5 ⟨rfl, hb5⟩
    have HCL5 := hide (HCL.out.keep hb5)
    have HB35 : Hid (Below w3.heap.size w3 w5) := HB34.out.trans (hb5.mono HB34.out.size)
    clear hb5 HGN HCL HB34
    go_wp2_with (first | (refine wpList_store_reg rfl 54 _ _ rfl w5.heap.size y rfl rfl 54 (regA reg0) (heap_alloc_new w5 _) (regA_size _) Tryd.sizeReg ?_; intro w6 hq6 ho6; have HQ6 := hide hq6; have HB56 : Hid (Below w5.heap.size w5 w6) := (((Below.refl _ w5).alloc (Nat.le_refl _) _).trans (ho6.below (Nat.le_refl _))); have HB36 : Hid (Below w3.heap.size w3 w6) := HB35.out.trans (HB56.out.mono HB35.out.size); clear hq6 ho6) | fail)
    have HCL6 := hide (HCL5.out.keep HB56.out)
    have HB6 : Hid (Below w.heap.size w w6) := HB3.out.trans (HB36.out.mono HB3.out.size)
    refine (HK3.out w6 HB36.out).mono ?_
    rintro e wx ⟨rfl, hwx⟩
    have hwy := hwx.symm
    clear hwx
    subst hwy
    have HST := hide (LoopI.start (HRG3.out.below HB36.out) HCL6.out HCX.out HDY.out HPY.out HB6.out)
    clear HDY HPY HCL5 HCL6 HCX HB56 HB35 HB4 HRG3 HK3 HL3 HS3 HZ
    go_wp2_with (first | (refine wpList_load_reg rfl 54 _ rfl w5.heap.size rfl 54 y _ HQ6.out Tryd.underlying54 rfl Tryd.sizeReg ?_) | (refine wpList_build2 rfl 75 0 1 _ _ rfl (.pointer (some ⟨base, 0, none⟩)) (.agg (regA y)) _ rfl rfl (Tryd.buildRClient base y _) ?_) | (refine wpList_box_run rfl 75 _ rfl (.agg (clientA base y 0)) _ rfl (Tryd.boxRClient base y 0 _) ?_) | fail)
    go_loopw [16, 17, 18, 19, 20, 21, 22, 23, 24, 25, 26, 27, 28, 29, 30, 31, 32, 33, 34, 35] (fun i _ _ _ _ _ _ _ _ _ _ _ _ _ _ _ _ _ _ _ wr => ∃ (k : Nat) (F : Nat → Prop) (sg : Nat → List ByteArray) (x : Nat → Int) (h : Int), k ≤ tn ∧ i = .int .i64 k ∧ LoopI base base cx w6.heap.size (w6.heap.size + 1) ks (.slice kp 8 kc) w k F sg x h wr) (fun i _ _ _ _ _ _ _ _ _ _ _ _ _ _ _ _ _ _ _ _ => tn - (intOf i).toNat)
    case atStart => exact ⟨0, F0, _, y, 0, Nat.zero_le _, rfl, HST.out⟩
    case round =>
      obtain ⟨wk, hwk⟩ : ∃ z, z = wr := ⟨_, rfl⟩
      subst hwk
      obtain ⟨k, F, sg, x, h, hk, rfl, hI⟩ := hrel
      have HI := hide hI
      clear hI HST z0 HP HG HN HB3 H3 HQ6 HB36 HB6
      by_cases hkn : k = tn
      · have hge : ¬ (k : Int) < tn := by omega
        clear hkn
        have HCX := hide HI.out.cl.one
        have hch : wk.cell? ⟨w6.heap.size, 35, none⟩ = some (.int .i64 h) := HI.out.cl.two.height
        have hhh : (h == h) = true := by simp
        go_wp2_with fail
        go_quiet (first | (go_at_call 33; refine Calls.quiet_of_same (clientHeight_any cx base x h _ (by exact HCX.out))))
        all_goals go_wp2
        go_ret
        exact ⟨rfl, below_drewN HI.out.below _⟩
      · have hlt : k < tn := by omega
        have hlt2 : (k : Int) < tn := by omega
        have HKT := hide hlt
        clear hkn hk
        obtain ⟨T, hT⟩ : ∃ T, T = ts k := ⟨_, rfl⟩
        obtain ⟨b, o, rfl, hbB, hrg⟩ := HT.out.below HI.out.below k hlt
        have HTK : Hid (TryOk w w.heap.size (ts k)) := HOK.out k hlt
        rw [← hT] at hrg HTK
        obtain ⟨block, who, rnd, op, on, oc, ms, rp, rn, rc, raw, uns, tht, pc, ano⟩ := T
        have HRG : Hid (wk.rangeAt b (o + k * 9) [.string block, .int .i64 who, .int .i64 rnd, .slice op on oc, .slice rp rn rc, .bool uns, .int .i64 tht, .int .i64 pc, .string ano]) := hrg
        have HMS : Hid (MsgsAt w w.heap.size op on ms) := HTK.out.msgs
        have HMZ : Hid (∀ i, i < on → (ms i).s.size ≤ maxLen ∧ (ms i).v ≤ 9223372036854775807 ∧ -9223372036854775808 ≤ (ms i).v) := HTK.out.msz
        have HRNL : Hid (rp = none → rn = 0 ∧ rc = 0) := HTK.out.rnil
        have HRAW : Hid (Lies w w.heap.size rp rn (fun i => .string (raw i))) := HTK.out.raws
        have HRSZ : Hid (∀ i, i < rn → (raw i).size ≤ maxLen) := HTK.out.rsz
        have HON : Hid (on ≤ 1048576) := HTK.out.onb
        have HRN : Hid (rn ≤ 1048576) := HTK.out.rnb
        have HBSZ : Hid (block.size ≤ 1048576) := HTK.out.bsz
        have HPC : Hid (-9223372036854775808 ≤ pc ∧ pc ≤ 9223372036854775807) := HTK.out.pcb
        clear hT hrg HTK
        have hrn : rn ≤ 1048576 := HRN.out
        go_wp2_with (first | (refine wpList_load_mid rfl 78 _ rfl b (o + k * 9) rfl [.string block, .int .i64 who, .int .i64 rnd, .slice op on oc, .slice rp rn rc, .bool uns, .int .i64 tht, .int .i64 pc, .string ano] _ HRG.out Tryd.underlying78 rfl Tryd.sizeTry ?_) | (refine wpList_store_new rfl 78 _ _ rfl wk #[.string block, .int .i64 who, .int .i64 rnd, .slice op on oc, .slice rp rn rc, .bool uns, .int .i64 tht, .int .i64 pc, .string ano] rfl rfl 78 _ rfl (by simp [Value.oneCell']) Tryd.sizeTry ?_; intro wa hqa hba hza; have HTR := hide (TrI.start HI.out.cl HI.out.book hba hqa); have HBwa : Hid (Below w.heap.size w wa) := HI.out.below.trans (hba.mono HI.out.below.size); have HRW := hide ((HRAW.out.below HBwa.out).more HBwa.out.size); have c4 : wa.cell? ⟨wk.heap.size, 4, none⟩ = some (.slice rp rn rc) := cell_of_row wa wk.heap.size 4 _ _ _ hqa; clear hqa hba hza) | (at_builtin; refine wpList_append_texts0 _ rfl _ _ 39 rfl wk.heap.size 9 i9 (.string ByteArray.empty) 16 Tryd.underlying39 hi9 hz0 hz1 hz2 rfl _ _ _ rfl HTR.out.all rp rn rc raw rfl HRNL.out HRW.out ?c3 ?c4 ?c5 ?_) | go_in)
        case c3 => unfold maxLen; simp; omega
        case c4 => simp; omega
        case c5 => exact HTR.out.bnd.1
        intro vb wb hownb hgrowb hatb
        have HB0 : Hid (w.heap.size ≤ base) := HBASE.out
        have HIN0 : Hid (InP base cx w6.heap.size (w6.heap.size + 1) wk.heap.size #[.string block, .int .i64 who, .int .i64 rnd, .slice op on oc, .slice rp rn rc, .bool uns, .int .i64 tht, .int .i64 pc, .string ano] ks (.slice kp 8 kc) w x h wk.heap.size (2 * k) (rn + 0) (k * 1048584 + 0) vb wb) := by
          refine ⟨F, sg, (List.range rn).map raw, HTR.out.more (L' := (List.range rn).map raw) (by simpa [List.map_map, Function.comp_def] using hownb) hgrowb hatb, by simp, fun i => Nat.le_trans (HI.out.sgl i) (by omega), fun t ht => ?_, HBwa.out.grown hgrowb HBwa.out.size (fun k hk => by cases hk)⟩
          rw [List.mem_map] at ht
          obtain ⟨i, hi, rfl⟩ := ht
          exact HRSZ.out i (by simpa using hi)
        clear hownb hgrowb hatb HTR HRW HRAW HRNL HRSZ c4 hrn HRG HBwa
        go_wp2
        go_loopw [18, 19, 20, 21, 22] (fun v i _ _ _ wr => ∃ q : Nat, q ≤ 8 ∧ i = .int .i64 q ∧ InP base cx w6.heap.size (w6.heap.size + 1) wk.heap.size #[.string block, .int .i64 who, .int .i64 rnd, .slice op on oc, .slice rp rn rc, .bool uns, .int .i64 tht, .int .i64 pc, .string ano] ks (.slice kp 8 kc) w x h wk.heap.size (2 * k) (rn + q) (k * 1048584 + q) v wr) (fun _ i _ _ _ _ => 8 - (intOf i).toNat)
        case atStart => exact ⟨0, by omega, rfl, HIN0.out⟩
        case round =>
          clear HIN0
          obtain ⟨wq, hwq⟩ : ∃ z, z = wr := ⟨_, rfl⟩
          subst hwq
          obtain ⟨q, hq, rfl, hin⟩ := hrel
          by_cases hq8 : q = 8
          · have hge8 : ¬ (q : Int) < 8 := by omega
            have HIN1 := hide hin
            have HQ8 := hide hq8
            clear hin hq8 hq
            go_wp2
            go_loopw [18, 23, 24, 25, 26] (fun v j _ _ _ wr => ∃ m : Nat, m ≤ on ∧ j = .int .i64 m ∧ InP base cx w6.heap.size (w6.heap.size + 1) wk.heap.size #[.string block, .int .i64 who, .int .i64 rnd, .slice op on oc, .slice rp rn rc, .bool uns, .int .i64 tht, .int .i64 pc, .string ano] ks (.slice kp 8 kc) w x h wk.heap.size (2 * k) (rn + 8 + m) (k * 1048584 + 8 + m) v wr) (fun _ j _ _ _ _ => on - (intOf j).toNat)
            case atStart =>
              refine ⟨0, Nat.zero_le _, rfl, ?_⟩
              obtain ⟨F5, sg5, L5, hin5⟩ := HIN1.out
              have := HQ8.out
              exact hin5.wide (by omega) (by omega)
            case round =>
              clear HIN1 HQ8
              obtain ⟨wj, hwj⟩ : ∃ z, z = wr := ⟨_, rfl⟩
              subst hwj
              obtain ⟨m, hm, rfl, hin⟩ := hrel
              obtain ⟨F5, sg5, L5, hin5⟩ := hin
              have HIN5 := hide hin5
              clear hin5
              have d3 : wj.cell? ⟨wk.heap.size, 3, none⟩ = some (.slice op on oc) := cell_of_row wj wk.heap.size 3 _ _ _ HIN5.out.tr.tr
              by_cases hmn : m = on
              · have hgm : ¬ (m : Int) < on := by omega
                have hlx : L5.length ≤ 3145728 := by have := HIN5.out.len; have := HRN.out; have := HON.out; omega
                have h6 := HIN5.out
                rw [hmn] at h6
                have HIN6 := hide h6
                clear h6
                clear HIN5 hmn hm
                obtain ⟨vp0, vc0, rfl⟩ := own_slice HIN6.out.tr.all
                go_upto_if 192 with fail
                go_cut [18, 27] from 92 to 265 (fun v _ wx => InP base cx w6.heap.size (w6.heap.size + 1) wk.heap.size #[.string block, .int .i64 who, .int .i64 rnd, .slice op on oc, .slice rp rn rc, .bool uns, .int .i64 tht, .int .i64 pc, .string ano] ks (.slice kp 8 kc) w x h wk.heap.size (2 * k) (rn + 8 + on) (k * 1048584 + 8 + on) v wx)
                case first =>
                  by_cases hL : L5.length = 0
                  · have hg0 : ¬ (0 : Int) < L5.length := by omega
                    have hg1 : decide ((0 : Int) < L5.length) = false := decide_eq_false hg0
                    clear hL
                    go_wp2
                    go_meet
                    case rel => exact ⟨_, _, _, HIN6.out⟩
                  · have hpos : (0 : Int) < L5.length := by omega
                    have hg1 : decide ((0 : Int) < L5.length) = true := decide_eq_true hpos
                    have d7 : wj.cell? ⟨wk.heap.size, 7, none⟩ = some (.int .i64 pc) := cell_of_row wj wk.heap.size 7 _ _ _ HIN6.out.tr.tr
                    have HPK := hide (pick_any pc L5.length wj HPC.out.1 HPC.out.2 (by omega) (by omega))
                    go_wp2_with fail
                    refine HPK.out.mono ?_
                    rintro e wz ⟨⟨r, hr, rfl⟩, hwz⟩
                    have hwy := hwz.symm
                    clear hwz HPK
                    subst hwy
                    obtain ⟨vp, tq, vc, tc, e0, hn1, hn2, hn3, hl1, hl2, hfront, hback⟩ := cut_any HIN6.out.tr.all r (by omega)
                    cases e0
                    have HL1 := hide hl1
                    have HL2 := hide hl2
                    have HFR := hide hfront
                    have HBK := hide hback
                    obtain ⟨bv, ov, rfl⟩ : ∃ b o, vp0 = some ⟨b, o, none⟩ := by
                      rcases hn1 with ⟨_, h0, _⟩ | h
                      · omega
                      · exact h
                    obtain ⟨bt, ot, rfl⟩ : ∃ b o, tq = some ⟨b, o, none⟩ := by
                      rcases hn3 with ⟨_, h0, _⟩ | h
                      · omega
                      · exact h
                    have hrl : r ≤ L5.length := by omega
                    have hrl2 : (r : Int) ≤ L5.length := by omega
                    clear hn1 hn2 hn3 hl1 hl2 hfront hback d7
                    go_wp2_with fail
                    refine wp_region_held_drew (S := fun _ => True) (by kernel_rfl) trivial (fun hHeld => ?_)
                    refine takeD 0 (some 198) (.slice (some ⟨bv, ov, none⟩) L5.length vc0) rfl rfl (by kernel_rfl) (by kernel_rfl) (by kernel_rfl) (fun _ _ _ h => h) (Or.inl ⟨by rfl, ?_⟩) trivial ?_
                    · intro w hSw
                      go_simp
                    simp only [Act.put, List.setIfInBounds_toArray, List.set_cons_zero, List.set_cons_succ]
                    refine takeD 1 (some 199) (.int .i64 (r : Int)) rfl rfl (by kernel_rfl) (by kernel_rfl) (by kernel_rfl) (fun _ _ _ h => h) (Or.inl ⟨by rfl, ?_⟩) trivial ?_
                    · intro w hSw
                      go_simp
                    simp only [Act.put, List.setIfInBounds_toArray, List.set_cons_zero, List.set_cons_succ]
                    refine takeD 2 (some 200) (.slice (some ⟨bt, ot, none⟩) (L5.length - r) tc) rfl rfl (by kernel_rfl) (by kernel_rfl) (by kernel_rfl) (fun _ _ _ h => h) (Or.inl ⟨by rfl, ?_⟩) trivial ?_
                    · intro w hSw
                      have hcx := HBK.out w
                      go_simp
                    simp only [Act.put, List.setIfInBounds_toArray, List.set_cons_zero, List.set_cons_succ]
                    refine takeD 4 (some 202) (.slice (some ⟨bv, ov, none⟩) L5.length vc0) rfl rfl (by kernel_rfl) (by kernel_rfl) (by kernel_rfl) (fun _ _ _ h => h) (Or.inl ⟨by rfl, ?_⟩) trivial ?_
                    · intro w hSw
                      go_simp
                    simp only [Act.put, List.setIfInBounds_toArray, List.set_cons_zero, List.set_cons_succ]
                    refine takeD 5 (some 203) (.int .i64 (r : Int)) rfl rfl (by kernel_rfl) (by kernel_rfl) (by kernel_rfl) (fun _ _ _ h => h) (Or.inl ⟨by rfl, ?_⟩) trivial ?_
                    · intro w hSw
                      go_simp
                    simp only [Act.put, List.setIfInBounds_toArray, List.set_cons_zero, List.set_cons_succ]
                    refine takeD 6 (some 204) (.slice (some ⟨bv, ov, none⟩) r vc0) rfl rfl (by kernel_rfl) (by kernel_rfl) (by kernel_rfl) (fun _ _ _ h => h) (Or.inl ⟨by rfl, ?_⟩) trivial ?_
                    · intro w hSw
                      have hcx := HFR.out w
                      go_simp
                    simp only [Act.put, List.setIfInBounds_toArray, List.set_cons_zero, List.set_cons_succ]
                    refine wpAnyH_ready (rs := [3]) (by kernel_rfl) (by simp) ?_
                    refine AllReadyH.cons rfl (fun K hK => ?_) AllReadyH.nil
                    rw [if_pos (by rfl)]
                    refine wp_append_at _ _ _ 39 rfl wk.heap.size 9 i9 (.string ByteArray.empty) 1 16 Tryd.underlying39 hi9 hz0 hz1 hz2 rfl (by decide) (.slice none 0 0) 0 [] rfl (World.ownsRow_nil _ _ _ _) ⟨bt, ot, none⟩ (L5.length - r) tc ((List.range (L5.length - r)).map fun i => .string (L5.getD (r + i) ByteArray.empty)) rfl (by simp) ?n1 ?n2 (by unfold maxLen; omega) (by omega) ?n3 ?_
                    case n1 =>
                      intro j u hj
                      have hjm : j < L5.length - r := by have := (List.getElem?_eq_some_iff.1 hj).1; simpa using this
                      obtain ⟨b', o', e', _, hc⟩ := HL2.out j hjm
                      cases e'
                      have e2 : ((List.range (L5.length - r)).map fun i => Value.string (L5.getD (r + i) ByteArray.empty))[j]? = some (.string (L5.getD (r + j) ByteArray.empty)) := by simp [hjm]
                      rw [e2] at hj
                      cases hj
                      rw [addr_add]
                      exact hc
                    case n2 =>
                      intro u hu
                      simp only [List.mem_map] at hu
                      obtain ⟨i, _, rfl⟩ := hu
                      rfl
                    case n3 => exact HIN6.out.tr.bnd.1
                    intro va wa1 howna hgrowa hata
                    have hba1 : Below wj.heap.size wj wa1 := ((Below.refl wj.heap.size wj).drew).trans ((Below.refl wj.heap.size wj.drew).grown hgrowa (Nat.le_refl _) (fun k hk => by cases hk))
                    refine hK.out _ _ trivial (fun hHeld => ?_)
                    clear hK K
                    simp only [Act.put, List.getElem_toArray, List.getElem_cons_succ, List.getElem_cons_zero, List.setIfInBounds_toArray, List.set_cons_zero, List.set_cons_succ]
                    refine wpAnyH_ready (rs := [7]) (by kernel_rfl) (by simp) ?_
                    refine AllReadyH.cons rfl (fun K hK => ?_) AllReadyH.nil
                    rw [if_pos (by rfl)]
                    refine wp_append_at _ _ _ 39 rfl wk.heap.size 9 i9 (.string ByteArray.empty) 1 16 Tryd.underlying39 hi9 hz0 hz1 hz2 rfl (by decide) va _ _ rfl howna ⟨bv, ov, none⟩ r vc0 ((List.range r).map fun i => .string (L5.getD i ByteArray.empty)) rfl (by simp) ?n1 ?n2 (by unfold maxLen; omega) (by omega) ?n3 ?_
                    case n1 =>
                      intro j u hj
                      have hjm : j < r := by have := (List.getElem?_eq_some_iff.1 hj).1; simpa using this
                      obtain ⟨b', o', e', hlt', hc⟩ := HL1.out j (by omega)
                      cases e'
                      have e2 : ((List.range r).map fun i => Value.string (L5.getD i ByteArray.empty))[j]? = some (.string (L5.getD j ByteArray.empty)) := by simp [hjm]
                      rw [e2] at hj
                      cases hj
                      rw [addr_add]
                      exact (hba1.cell (p := ⟨bv, ov + j, none⟩) (by exact hlt')).trans hc
                    case n2 =>
                      intro u hu
                      simp only [List.mem_map] at hu
                      obtain ⟨i, _, rfl⟩ := hu
                      rfl
                    case n3 => exact Nat.le_trans HIN6.out.tr.bnd.1 hba1.size
                    intro vb wb1 hownb hgrowb hatb
                    refine hK.out _ _ trivial (fun hHeld => ?_)
                    clear hK K
                    simp only [Act.put, List.getElem_toArray, List.getElem_cons_succ, List.getElem_cons_zero, List.setIfInBounds_toArray, List.set_cons_zero, List.set_cons_succ]
                    refine takeD 8 (some 18) (vb) rfl rfl (by kernel_rfl) (by kernel_rfl) (by kernel_rfl) (fun _ _ _ h => h) (Or.inl ⟨by rfl, ?_⟩) trivial ?_
                    · intro w hSw
                      go_simp
                    simp only [Act.put, List.setIfInBounds_toArray, List.set_cons_zero, List.set_cons_succ]
                    refine wpAnyH_done (by kernel_rfl) ?_ _
                    have HIN7 : Hid (InP base cx w6.heap.size (w6.heap.size + 1) wk.heap.size #[.string block, .int .i64 who, .int .i64 rnd, .slice op on oc, .slice rp rn rc, .bool uns, .int .i64 tht, .int .i64 pc, .string ano] ks (.slice kp 8 kc) w x h wk.heap.size (2 * k) (rn + 8 + on) (k * 1048584 + 8 + on) vb wb1) := by
                      have hI6 := HIN6.out.later ((Below.refl wj.heap.size wj).drew)
                      have t0 := hI6.tr.other (v' := .slice none 0 0) (L' := []) (World.ownsRow_nil _ _ _ _) (fun g e => by cases e)
                      have q0 : va.ownBlock = none ∨ va.ownBlock = some wj.drew.heap.size := hata
                      have t1 := t0.more (L' := L5.drop r) (v' := va) (w' := wa1) ?_ hgrowa hata
                      · have t2 := t1.more (L' := L5.drop r ++ L5.take r) (v' := vb) (w' := wb1) ?_ hgrowb hatb
                        · refine ⟨F5, sg5, _, t2, ?_, hI6.sgl, fun t ht => ?_, ?_⟩
                          · have := hI6.len
                            rw [List.length_append, List.length_drop, List.length_take]
                            omega
                          · rcases List.mem_append.1 ht with h1 | h1
                            · exact hI6.siz t (List.mem_of_mem_drop h1)
                            · exact hI6.siz t (List.mem_of_mem_take h1)
                          · have b1 : Below w.heap.size w wa1 := HIN6.out.below.trans (hba1.mono HIN6.out.below.size)
                            exact b1.grown hgrowb b1.size (fun k hk => Nat.le_trans HB0.out (Nat.le_trans t1.bnd.2 (t1.all.lt k hk).1))
                        · rw [← rot_list L5 r hrl, List.length_append, List.length_drop, List.length_take, Nat.min_eq_left hrl]
                          simpa using hownb
                      · have e3 := rot_list L5 r hrl
                        have e4 : (List.range (L5.length - r)).map (fun i => Value.string (L5.getD (r + i) ByteArray.empty)) = (L5.drop r).map .string := by
                          have := congrArg (List.take (L5.length - r)) e3
                          rw [List.take_append_of_le_length (by simp), List.map_append, List.take_append_of_le_length (by simp), List.take_of_length_le (by simp), List.take_of_length_le (by simp)] at this
                          exact this
                        rw [← e4, List.length_drop]
                        simpa using howna
                    clear howna hgrowa hata hownb hgrowb hatb hba1 HIN6 HL1 HL2 HFR HBK
                    go_wp2
                    go_meet
                    case rel => exact HIN7.out
                case rest =>
                  obtain ⟨w7, hw7⟩ : ∃ z, z = wc := ⟨_, rfl⟩
                  subst hw7
                  obtain ⟨F7, sg7, L7, hin7⟩ := hcut
                  have HIN7 := hide hin7
                  clear hin7 HIN6 hlx
                  obtain ⟨vp, tq, vc, tc, e0, hn1, -, -, hl1, -, -, -⟩ := cut_any HIN7.out.tr.all 0 (Nat.zero_le _)
                  cases e0
                  have hl7 : L7.length ≤ 3145728 := by have := HIN7.out.len; have := HRN.out; have := HON.out; omega
                  have HTX := hide (texts_readyM (fun i => L7.getD i ByteArray.empty) vp L7.length vc w7 (by omega) hn1 hl1)
                  have HL7 := hide hl7
                  clear hn1 hl1 hl7
                  go_wp2_with fail
                  refine HTX.out.mono ?_
                  rintro e w8 ⟨⟨gp2, gc2, rfl, -, hla, hka⟩, hb8⟩
                  have HKA := hide hka
                  have HLA := hide hla
                  have HIN8 := hide (HIN7.out.later hb8)
                  have H78 : Hid (w7.heap.size ≤ w8.heap.size) := hb8.size
                  have HCX7 : Hid (cx < w7.heap.size ∧ w6.heap.size < w7.heap.size) := ⟨row_lt0 HIN7.out.tr.cl.one, row_lt0 HIN7.out.tr.cl.two⟩
                  clear hka hla hb8 HTX HIN7
                  have HSZ7 : Hid (∀ i, i < L7.length → (L7.getD i ByteArray.empty).size ≤ maxLen) := fun i hi => by
                    refine HIN8.out.siz _ ?_
                    rw [List.getD_eq_getElem?_getD, List.getElem?_eq_getElem hi]
                    exact List.getElem_mem hi
                  have d0 : w8.cell? ⟨wk.heap.size, 0, none⟩ = some (.string block) := cell_of_row w8 wk.heap.size 0 _ _ _ HIN8.out.tr.tr
                  have HAC := hide (accept_any F7 cx base 8 sg7 x h block (fun i => L7.getD i ByteArray.empty) gp2 L7.length gc2 es a1 a2 a9 a11 mx w8 HI.out.dom HI.out.h0 (by have := HI.out.h12; omega) (by have := HBSZ.out; omega) HIN8.out.tr.cl.one HIN8.out.tr.cl.ring (fun j hj => (HIN8.out.tr.cl.flt j hj).2) (HS.out.later HIN8.out.below) HE1.out HE2.out HE9.out HE11.out (HTY.out.below HIN8.out.below) ((HIN8.out.below.cell (p := ⟨13, 0, none⟩) (by exact HML.out)).trans HMX.out) HLA.out (by have := HL7.out; omega))
                  go_wp2_with fail
                  refine HAC.out.mono ?_
                  intro e w9 hA
                  obtain ⟨ev, y1, h1, rfl, hbut, hcl⟩ := hA.ret HIN8.out.tr.cl.one
                  have HTR9 := hide (HIN8.out.tr.accept1 hcl hbut)
                  have HA := hide hA
                  clear hA hbut hcl HAC HLA d0
                  have d0 : w9.cell? ⟨wk.heap.size, 0, none⟩ = some (.string block) := cell_of_row w9 wk.heap.size 0 _ _ _ HTR9.out.tr
                  have HRA : Hid (Calls Tryd.prog 31 #[.pointer (some ⟨w6.heap.size, 0, none⟩), .string block, .slice vp L7.length vc] w9 (RAcceptP w6.heap.size base 8 sg7 x h block (fun i => L7.getD i ByteArray.empty) L7.length w9)) := by
                    obtain ⟨vp', vc', e', -, hl'⟩ := own_lies HTR9.out.all
                    cases e'
                    exact refAccept_any F7 w6.heap.size base 8 sg7 x h block (fun i => L7.getD i ByteArray.empty) vp L7.length vc w9 HI.out.dom HI.out.h0 (by have := HI.out.h12; omega) (by have := HBSZ.out; omega) HTR9.out.cl.two HTR9.out.cl.ring (fun j hj => (HTR9.out.cl.flt j hj).2) hl' HSZ7.out (by have := HL7.out; omega)
                  go_wp2_with fail
                  refine HRA.out.mono ?_
                  intro e w10 hR
                  obtain ⟨c, y2, h2, rfl, -, -⟩ := hR.ret HTR9.out.cl.two
                  obtain ⟨x', h', hT10, hd', hp', h0', h12', hb10, hfr10, hwh⟩ := HIN8.out.tr.accepted HA.out hR HI.out.dom HI.out.pow HI.out.h0 HI.out.h12
                  have HTR10 := hide hT10
                  have HD' := hide hd'
                  have HP' := hide hp'
                  have HH' := hide (And.intro h0' h12')
                  have HWH := hide hwh
                  have HFR10 := hide hfr10
                  have HB10 : Hid (Below w.heap.size w w10) := HIN8.out.below.trans (hb10.mono HB0.out)
                  have HSZ10 : Hid (w8.heap.size ≤ w10.heap.size) := hb10.size
                  have HSGL := hide HIN8.out.sgl
                  clear hR hT10 hd' hp' h0' h12' hb10 hfr10 hwh HRA HA HTR9 d0 HIN8 HSZ7
                  have HS10 := hide (HS.out.later HB10.out)
                  go_wp2_with fail
                  refine (HWH.out w10 HS10.out).mono ?_
                  rintro e w11 ⟨rfl, hb11⟩
                  have HTR11 := hide (HTR10.out.below hb11)
                  have HB11 : Hid (Below w.heap.size w w11) := HB10.out.trans (hb11.mono HB10.out.size)
                  have HKC : Hid (Calls Tryd.prog 21 #[.slice gp2 L7.length gc2, .slice vp L7.length vc] w11 fun e w3 => e = .returned (.bool true) ∧ w3 = w11) := by
                    obtain ⟨vp', vc', e', -, hl'⟩ := own_lies HTR11.out.all
                    cases e'
                    refine HKA.out w11 (Nat.le_trans HSZ10.out hb11.size) (fun j hj hj2 => ?_) hl'
                    have n1 := HCX7.out.1
                    have n2 := HCX7.out.2
                    rw [hb11.block j (Nat.lt_of_lt_of_le hj2 HSZ10.out), HFR10.out j hj2 (by omega) (by omega)]
                  clear hb11 HWH HS10 HTR10 HB10 HKA HFR10 HSZ10 H78 HCX7
                  go_wp2_with fail
                  refine HKC.out.mono ?_
                  rintro e wz ⟨rfl, hwz⟩
                  have hwy := hwz.symm
                  clear hwz HKC
                  subst hwy
                  have HCR := hide (clientRegistry_any cx base x' h' w11 HTR11.out.cl.one HD'.out)
                  go_wp2_with fail
                  refine HCR.out.mono ?_
                  rintro e w12 ⟨pv, rv, rfl, hpo, hro, hpr, hb12⟩
                  obtain ⟨pp, pc7, rfl⟩ := own_slice hpo
                  obtain ⟨rp7, rc7, rfl⟩ := own_slice hro
                  obtain ⟨rn7, hrn7⟩ : ∃ z, z = (memb x' 26).length := ⟨_, rfl⟩
                  obtain ⟨nm, hnm⟩ : ∃ z, z = nameB (memb x' 26) := ⟨_, rfl⟩
                  rw [← hrn7] at hro hpr ⊢
                  rw [← hnm]
                  have HRN7 := hide hrn7
                  have HNM := hide hnm
                  have HPO := hide hpo
                  have HRO := hide hro
                  have HPR := hide hpr
                  have HTR12 := hide (HTR11.out.below hb12)
                  have HB1112 := hide hb12
                  have HB12 : Hid (Below w.heap.size w w12) := HB11.out.trans (hb12.mono HB11.out.size)
                  clear hpo hro hpr hb12 hrn7 hnm HCR
                  go_wp2_with (first | (refine wpList_store_new rfl 48 _ _ rfl w12 #[.slice pp 8 pc7, .string nm, .slice rp7 rn7 rc7] rfl rfl 48 _ rfl (by simp [Value.oneCell']) Tryd.sizeToldK ?_; intro w13 hq13 hb13 hz13; have HQ13 := hide hq13; have HB1213 := hide hb13; clear hq13 hb13 hz13) | fail)
                  have HTR13 := hide (HTR12.out.below HB1213.out)
                  have HB12S : Hid (w11.heap.size ≤ w12.heap.size) := HB1112.out.size
                  have HB1113 : Hid (Below w11.heap.size w11 w13) := HB1112.out.trans (HB1213.out.mono HB1112.out.size)
                  clear HTR12
                  obtain ⟨A1, hA1⟩ : ∃ A : Nat → Int, A = fun i => ((List.range 8).map x').getD i 0 := ⟨_, rfl⟩
                  obtain ⟨A2, hA2⟩ : ∃ A : Nat → Int, A = fun i => ((memb x' 26).map fun j => x' (8 + j)).getD i 0 := ⟨_, rfl⟩
                  have HLP : Hid (Lies w13 w13.heap.size pp 8 (fun i => .int .i64 (A1 i))) := by
                    have h := HPO.out
                    rw [powL_nums] at h
                    rw [hA1]
                    exact ((own_nums h).2.below HB1213.out).more HB1213.out.size
                  have HLR : Hid (Lies w13 w13.heap.size rp7 rn7 (fun i => .int .i64 (A2 i))) := by
                    have h := HRO.out
                    rw [roleL_nums] at h
                    rw [hA2]
                    exact ((own_nums h).2.below HB1213.out).more HB1213.out.size
                  have HRGX : Hid (w13.rangeAt w6.heap.size 1 (regL x')) := HTR13.out.cl.two.reg
                  have l13 : w6.heap.size < w13.heap.size := row_lt0 HTR13.out.cl.two
                  have l12 : w12.heap.size < w13.heap.size := row_lt0 HQ13.out
                  refine wp_region_held_drew (S := fun W' => W'.heap[w12.heap.size]? = some (.cells #[.slice pp 8 pc7, .string nm, .slice rp7 rn7 rc7] 48 (0, 0)) ∧ W'.rangeAt w6.heap.size 1 (regL x')) (by kernel_rfl) ⟨HQ13.out, HRGX.out⟩ (fun hHeld => ?_)
                  refine takeD 0 (some 225) (.agg #[.slice pp 8 pc7, .string nm, .slice rp7 rn7 rc7]) rfl rfl (by kernel_rfl) (by kernel_rfl) (by kernel_rfl) (fun _ _ _ h => h) (yieldsIf_load_mid (by rfl) 48 _ rfl w12.heap.size 0 rfl [.slice pp 8 pc7, .string nm, .slice rp7 rn7 rc7] _ (fun w h => row_range h.1) Tryd.underlying48 rfl (by rw [Tryd.sizeToldK]; rfl)) hHeld ?_
                  simp only [Act.put, List.setIfInBounds_toArray, List.set_cons_zero, List.set_cons_succ]
                  refine takeD 1 (some 226) (.pointer (some ⟨w6.heap.size, 0, none⟩)) rfl rfl (by kernel_rfl) (by kernel_rfl) (by kernel_rfl) (fun _ _ _ h => h) (Or.inl ⟨by rfl, ?_⟩) hHeld ?_
                  · intro w hSw
                    go_simp
                  simp only [Act.put, List.setIfInBounds_toArray, List.set_cons_zero, List.set_cons_succ]
                  refine takeD 2 (some 227) (.pointer (some ⟨w6.heap.size, 0, none⟩)) rfl rfl (by kernel_rfl) (by kernel_rfl) (by kernel_rfl) (fun _ _ _ h => h) (Or.inl ⟨by rfl, ?_⟩) hHeld ?_
                  · intro w hSw
                    go_simp
                  simp only [Act.put, List.setIfInBounds_toArray, List.set_cons_zero, List.set_cons_succ]
                  refine takeD 3 (some 228) (.pointer (some ⟨w6.heap.size, 1, none⟩)) rfl rfl (by kernel_rfl) (by kernel_rfl) (by kernel_rfl) (fun _ _ _ h => h) (Or.inl ⟨by rfl, ?_⟩) hHeld ?_
                  · intro w hSw
                    go_simp
                  simp only [Act.put, List.setIfInBounds_toArray, List.set_cons_zero, List.set_cons_succ]
                  refine takeD 4 (some 229) (.agg (regA x')) rfl rfl (by kernel_rfl) (by kernel_rfl) (by kernel_rfl) (fun _ _ _ h => h) (yieldsIf_load_mid (by rfl) 54 _ rfl w6.heap.size 1 rfl (regL x') _ (fun w h => h.2) Tryd.underlying54 rfl (by rw [Tryd.sizeReg]; simp [regL])) hHeld ?_
                  simp only [Act.put, List.setIfInBounds_toArray, List.set_cons_zero, List.set_cons_succ]
                  refine wpAnyH_ready (rs := [5]) (by kernel_rfl) (by simp) ?_
                  refine AllReadyH.cons rfl (fun K hK => ?_) AllReadyH.nil
                  go_simp
                  go_wp2_with ((go_at_call 19; refine (plain_any x' _ HD'.out).mono ?_; rintro e w14 ⟨p2, r2, rfl, hp2, hr2, hb14⟩))
                  obtain ⟨q2, qc, rfl⟩ := own_slice hp2
                  obtain ⟨t2, t2c, rfl⟩ := own_slice hr2
                  rw [← HRN7.out] at hr2 ⊢
                  rw [← HNM.out]
                  have HB1314 : Hid (Below w13.heap.size w13 w14) := ((Below.refl w13.heap.size w13).drew).trans hb14
                  have HLQ : Hid (Lies w14 w14.heap.size q2 8 (fun i => .int .i64 (A1 i))) := by
                    have h := hp2
                    rw [powL_nums] at h
                    rw [hA1]
                    exact (own_nums h).2
                  have HLT : Hid (Lies w14 w14.heap.size t2 rn7 (fun i => .int .i64 (A2 i))) := by
                    have h := hr2
                    rw [roleL_nums] at h
                    rw [hA2]
                    exact (own_nums h).2
                  clear hp2 hr2 hb14
                  refine hK.out _ _ ⟨(HB1314.out.block _ l12).trans HQ13.out, fun j v hv => (HB1314.out.cell (p := ⟨w6.heap.size, 1 + j, none⟩) (by exact l13)).trans (HRGX.out j v hv)⟩ (fun hHeld => ?_)
                  clear hK K
                  have hml7 : rn7 ≤ 26 := by rw [HRN7.out]; exact memb_length x' 26
                  refine wpAnyH_ready (rs := [6]) (by kernel_rfl) (by simp) ?_
                  refine AllReadyH.cons rfl (fun K hK => ?_) AllReadyH.nil
                  go_simp
                  go_wp2_with ((go_at_call 18; refine (equal_any A1 A1 A2 A2 pp q2 rp7 t2 8 8 rn7 rn7 pc7 rc7 qc t2c nm nm w14 (by unfold maxLen; omega) (by unfold maxLen; omega) ((HLP.out.below HB1314.out).more HB1314.out.size) HLQ.out ((HLR.out.below HB1314.out).more HB1314.out.size) HLT.out).mono ?_; rintro e w15 ⟨⟨ob, rfl, hob⟩, hb15⟩))
                  obtain rfl : ob = true := by first | exact hob trivial (fun _ _ => trivial) trivial (fun _ _ => trivial) trivial | exact hob rfl (fun _ _ => rfl) rfl (fun _ _ => rfl) rfl | (simp at hob; exact hob)
                  have HB1415 := hide hb15
                  clear hob hb15
                  have l1214 : w12.heap.size < w14.heap.size := Nat.lt_of_lt_of_le l12 HB1314.out.size
                  have l1314 : w6.heap.size < w14.heap.size := Nat.lt_of_lt_of_le l13 HB1314.out.size
                  refine hK.out _ _ ⟨(HB1415.out.block _ l1214).trans hHeld.1, fun j v hv => (HB1415.out.cell (p := ⟨w6.heap.size, 1 + j, none⟩) (by exact l1314)).trans (hHeld.2 j v hv)⟩ (fun hHeld => ?_)
                  clear hK K
                  refine takeD 7 (some 34) (.bool true) rfl rfl (by kernel_rfl) (by kernel_rfl) (by kernel_rfl) (fun _ _ _ h => h) (Or.inl ⟨by rfl, ?_⟩) hHeld ?_
                  · intro w hSw
                    go_simp
                  simp only [Act.put, List.setIfInBounds_toArray, List.set_cons_zero, List.set_cons_succ]
                  refine wpAnyH_done (by kernel_rfl) ?_ _
                  have HQ15 := hide hHeld.1
                  have HB1315 : Hid (Below w13.heap.size w13 w15) := HB1314.out.trans (HB1415.out.mono HB1314.out.size)
                  have HB1115 : Hid (Below w11.heap.size w11 w15) := HB1113.out.trans (HB1315.out.mono HB1113.out.size)
                  have HB1215 : Hid (Below w12.heap.size w12 w15) := HB1213.out.trans (HB1315.out.mono HB1213.out.size)
                  have HB15 : Hid (Below w.heap.size w w15) := HB11.out.trans (HB1115.out.mono HB11.out.size)
                  have HTR15 := hide (HTR13.out.below HB1315.out)
                  have HPO15 : Hid (w15.ownsRow w11.heap.size 3 1 (.slice pp 8 pc7) 8 (powL x' 8)) := own_blocks HPO.out (fun g2 e2 hlt => HB1215.out.block g2 hlt)
                  have HRO15 : Hid (w15.ownsRow w11.heap.size 3 1 (.slice rp7 rn7 rc7) rn7 (roleL x' (memb x' 26))) := own_blocks HRO.out (fun g2 e2 hlt => HB1215.out.block g2 hlt)
                  have hbk : w6.heap.size + 1 < w11.heap.size := by obtain ⟨cb, hcb⟩ := HTR11.out.book.head; exact heap_lt hcb
                  have hwk11 : wk.heap.size ≤ w11.heap.size := HTR11.out.bnd.1
                  have h1115 : w11.heap.size ≤ w15.heap.size := HB1115.out.size
                  have hkk : 2 * k ≤ 2097152 := by have := HKT.out; have := HTN.out; omega
                  have hq0 := cell_of_row w15 w12.heap.size 0 _ _ _ HQ15.out
                  simp only [List.getElem?_toArray, List.getElem?_cons_zero, List.getElem?_cons_succ] at hq0
                  clear hHeld HB1314 HB1415 HB1315 HLP HLR HLQ HLT HPO HRO HRGX HTR13 HTR11 l12 l13 l1214 l1314 hA1 hA2 HQ13 HB1213 HB1113 HB1112
                  have HKP := hide (keep_book (fun b => F7 b ∨ b = cx ∨ b = w6.heap.size ∨ wk.heap.size ≤ b) (fun b => F7 b ∨ b = cx ∨ b = w6.heap.size ∨ some b = Value.ownBlock (.slice rp7 rn7 rc7)) (w6.heap.size + 1) (w6.heap.size + 1 + 1) w11.heap.size (2 * k) 8 (.slice pp 8 pc7) (powL x' 8) w15 (by omega) (by omega) HTR15.out.book HPO15.out (by omega) (by omega) (by omega) (by omega) (fun g e => Or.inr (Or.inr (Or.inr (Nat.le_trans hwk11 (HPO15.out.lt g e).1)))) (fun b hb => by
                    rcases hb with hb | hb | hb | hb
                    · have h3 := HTR15.out.cl.notInt HPO15.out b (Or.inl hb)
                      exact ⟨Or.inl hb, h3.1, h3.2⟩
                    · have h3 := HTR15.out.cl.notInt HPO15.out b (Or.inr (Or.inl hb))
                      exact ⟨Or.inr (Or.inl hb), h3.1, h3.2⟩
                    · have h3 := HTR15.out.cl.notInt HPO15.out b (Or.inr (Or.inr hb))
                      exact ⟨Or.inr (Or.inr (Or.inl hb)), h3.1, h3.2⟩
                    · exact ⟨Or.inr (Or.inr (Or.inr (Nat.le_trans hwk11 (HRO15.out.lt b hb.symm).1))), fun e2 => HPR.out b e2.symm hb.symm, (HRO15.out.lt b hb.symm).2⟩))
                  go_wp2_with fail
                  refine HKP.out.mono ?_
                  rintro e wa1 ⟨rfl, hba, hbb, hfr⟩
                  have HCLa : Hid (ClI base base cx w6.heap.size ks (.slice kp 8 kc) F7 sg7 x' h' x' h' wa1) := by
                    obtain ⟨cb, hcb⟩ := HTR15.out.book.head
                    exact HTR15.out.cl.kept hcb HPO15.out hbb.size hfr
                  have hnw : w12.heap.size ≠ w6.heap.size + 1 := by have h3 : w11.heap.size ≤ w12.heap.size := HB12S.out; omega
                  have HQa1 : Hid (wa1.heap[w12.heap.size]? = some (.cells #[.slice pp 8 pc7, .string nm, .slice rp7 rn7 rc7] 48 (0, 0))) := (hfr w12.heap.size (heap_lt HQ15.out) hnw (row_apart0 HPO15.out HQ15.out (by decide)) (fun t c h => by rw [HQ15.out] at h; have := (Obj.cells.inj (Option.some.inj h)).2.1; rw [← this]; decide)).trans HQ15.out
                  have HROa : Hid (wa1.ownsRow w11.heap.size 3 1 (.slice rp7 rn7 rc7) rn7 (roleL x' (memb x' 26))) := own_blocks HRO15.out (fun g2 e2 hlt => hfr g2 hlt (by have := (HRO15.out.lt g2 e2).1; omega) (fun e3 => HPR.out g2 e3.symm e2) (fun t c h => by rw [own_typeK HRO15.out e2 t c h]; decide))
                  have HBKa := hide hba
                  have HBa1 := hide hbb
                  have hsa : w15.heap.size ≤ wa1.heap.size := hbb.size
                  have hq2 := cell_of_row wa1 w12.heap.size 2 _ _ _ HQa1.out
                  simp only [List.getElem?_toArray, List.getElem?_cons_zero, List.getElem?_cons_succ] at hq2
                  clear hba hbb hfr HKP hq0 HPO15 HRO15 HTR15 HQ15
                  have HKP := hide (keep_book (fun b => F7 b ∨ b = cx ∨ b = w6.heap.size ∨ some b = Value.ownBlock (.slice rp7 rn7 rc7)) (fun b => F7 b ∨ b = cx ∨ b = w6.heap.size) (w6.heap.size + 1) (w6.heap.size + 1 + 1) w11.heap.size (2 * k + 1) rn7 (.slice rp7 rn7 rc7) (roleL x' (memb x' 26)) wa1 (by omega) (by omega) HBKa.out HROa.out (by omega) (by omega) (by omega) (by omega) (fun g e => Or.inr (Or.inr (Or.inr e.symm))) (fun b hb => by
                    have h3 := HCLa.out.notInt HROa.out b hb
                    refine ⟨?_, h3.1, h3.2⟩
                    rcases hb with hb | hb | hb
                    · exact Or.inl hb
                    · exact Or.inr (Or.inl hb)
                    · exact Or.inr (Or.inr (Or.inl hb))))
                  go_wp2_with fail
                  refine HKP.out.mono ?_
                  rintro e wb1 ⟨rfl, hba, hbb, hfr⟩
                  have HCLb : Hid (ClI base base cx w6.heap.size ks (.slice kp 8 kc) F7 sg7 x' h' x' h' wb1) := by
                    obtain ⟨cb, hcb⟩ := HBKa.out.head
                    exact HCLa.out.kept hcb HROa.out hbb.size hfr
                  have HBKb := hide hba
                  have HBb1 := hide hbb
                  clear hba hbb hfr HKP hq2 HROa HQa1 HBKa HCLa
                  have HLK := hide (looks_book (fun b => F7 b ∨ b = cx ∨ b = w6.heap.size) (w6.heap.size + 1) (w6.heap.size + 1 + 1) (2 * k + 1 + 1) wb1 (by omega) HBKb.out)
                  go_wp2_with fail
                  refine HLK.out.mono ?_
                  rintro e wc1 ⟨rfl, hbc⟩
                  have HBLOW : Hid (w.heap.size ≤ w6.heap.size + 1) := Nat.le_trans HB0.out HI.out.bklow.2.2
                  have HEND : Hid (LoopI base base cx w6.heap.size (w6.heap.size + 1) ks (.slice kp 8 kc) w (k + 1) F7 sg7 x' h' wc1) := by
                    have b3 : Below w.heap.size w wb1 := (HB15.out.trans (HBa1.out.mono HBLOW.out)).trans (HBb1.out.mono HBLOW.out)
                    exact ⟨HCLb.out.below hbc, HBKb.out.below hbc, HI.out.bklow, fun i => Nat.le_trans (HSGL.out i) (by have := HON.out; omega), HD'.out, HP'.out, HH'.out.1, HH'.out.2, b3.trans (hbc.mono b3.size)⟩
                  clear hbc HLK HBKb HCLb HBb1 HBa1 HB15
                  have hcn : (c != c) = false := by simp
                  have hcc : (c == c) = true := by simp
                  have hhn : (h' != h') = false := by simp
                  have hhc : (h' == h') = true := by simp
                  have HCX := hide HEND.out.cl.one
                  have hch : wc1.cell? ⟨w6.heap.size, 35, none⟩ = some (.int .i64 h') := HEND.out.cl.two.height
                  go_wp2_with fail
                  go_quiet (first | (go_at_call 33; refine Calls.quiet_of_same (clientHeight_any cx base x' h' _ (by exact HCX.out))))
                  all_goals go_wp2
                  go_roundw
                  case rel => exact ⟨k + 1, F7, sg7, x', h', HKT.out, by go_num, HEND.out.later (below_drewN (Below.refl _ _) _)⟩
                  case measure => have := HKT.out; simp [intOf]; omega
              · have hmo : m < on := by omega
                have hmo2 : (m : Int) < on := by omega
                have HMO := hide hmo
                have hmb : m ≤ 1048576 := by have := HON.out; omega
                obtain ⟨bm, om, rfl, hbm, hrgm⟩ := HMS.out.below HIN5.out.below m hmo
                obtain ⟨mm, hmm⟩ : ∃ z, z = ms m := ⟨_, rfl⟩
                have HZM := hide (HMZ.out m hmo)
                rw [← hmm] at hrgm HZM
                obtain ⟨kd, H, R, f, V, nl, s⟩ := mm
                have HRGM : Hid (wj.rangeAt bm (om + m * 7) [.int .i64 kd, .int .i64 H, .int .i64 R, .int .i64 f, .int .i64 V, .bool nl, .string s]) := hrgm
                clear hmm hrgm hmn hm hmo
                go_wp2_with (first | (refine wpList_load_mid rfl 28 _ rfl bm (om + m * 7) rfl [.int .i64 kd, .int .i64 H, .int .i64 R, .int .i64 f, .int .i64 V, .bool nl, .string s] _ HRGM.out Tryd.underlying28 rfl Tryd.sizeMsgK ?_) | (refine wpList_store_new rfl 28 _ _ rfl wj #[.int .i64 kd, .int .i64 H, .int .i64 R, .int .i64 f, .int .i64 V, .bool nl, .string s] rfl rfl 28 _ rfl (by simp [Value.oneCell']) Tryd.sizeMsgK ?_; intro w7 hq7 hb7 hz7; have HQ7 := hide hq7; have HB7 := hide hb7; clear hq7 hb7 hz7) | fail)
                have e1 : w7.cell? ⟨wj.heap.size, 1, none⟩ = some (.int .i64 H) := cell_of_row w7 wj.heap.size 1 _ _ _ HQ7.out
                have e2 : w7.cell? ⟨w6.heap.size, 35, none⟩ = some (.int .i64 h) := (HIN5.out.later HB7.out).tr.cl.two.height
                have l1 : w6.heap.size < wj.heap.size := row_lt0 HIN5.out.tr.cl.two
                have l2 : wj.heap.size < w7.heap.size := World.block_lt_of_cell? _ _ e1
                have e3 : w7.frozen? ⟨wj.heap.size, 1, none⟩ = false := frozen_row HQ7.out 1
                refine wp_region_held_drew (S := fun W => W.cell? ⟨w6.heap.size, 35, none⟩ = some (.int .i64 h)) (by kernel_rfl) e2 (fun hHeld => ?_)
                refine takeD 0 (some 159) (.pointer (some ⟨wj.heap.size, 1, none⟩)) rfl rfl (by kernel_rfl) (by kernel_rfl) (by kernel_rfl) (fun _ _ _ h => h) (Or.inl ⟨by rfl, ?_⟩) hHeld ?_
                · intro w hSw
                  go_simp
                simp only [Act.put, List.setIfInBounds_toArray, List.set_cons_zero, List.set_cons_succ]
                refine takeD 2 (some 161) (.pointer (some ⟨w6.heap.size, 0, none⟩)) rfl rfl (by kernel_rfl) (by kernel_rfl) (by kernel_rfl) (fun _ _ _ h => h) (Or.inl ⟨by rfl, ?_⟩) hHeld ?_
                · intro w hSw
                  go_simp
                simp only [Act.put, List.setIfInBounds_toArray, List.set_cons_zero, List.set_cons_succ]
                refine takeD 3 (some 162) (.pointer (some ⟨w6.heap.size, 0, none⟩)) rfl rfl (by kernel_rfl) (by kernel_rfl) (by kernel_rfl) (fun _ _ _ h => h) (Or.inl ⟨by rfl, ?_⟩) hHeld ?_
                · intro w hSw
                  go_simp
                simp only [Act.put, List.setIfInBounds_toArray, List.set_cons_zero, List.set_cons_succ]
                refine takeD 4 (some 163) (.pointer (some ⟨w6.heap.size, 35, none⟩)) rfl rfl (by kernel_rfl) (by kernel_rfl) (by kernel_rfl) (fun _ _ _ h => h) (Or.inl ⟨by rfl, ?_⟩) hHeld ?_
                · intro w hSw
                  go_simp
                simp only [Act.put, List.setIfInBounds_toArray, List.set_cons_zero, List.set_cons_succ]
                refine takeD 5 (some 164) (.int .i64 h) rfl rfl (by kernel_rfl) (by kernel_rfl) (by kernel_rfl) (fun _ _ _ h => h) (Or.inl ⟨by rfl, ?_⟩) hHeld ?_
                · intro w hSw
                  have hcx := hSw
                  go_simp
                simp only [Act.put, List.setIfInBounds_toArray, List.set_cons_zero, List.set_cons_succ]
                have e1' : w7.drew.cell? ⟨wj.heap.size, 1, none⟩ = some (.int .i64 H) := e1
                have e3' : w7.drew.frozen? ⟨wj.heap.size, 1, none⟩ = false := e3
                refine wpAnyH_ready (rs := [1]) (by kernel_rfl) (by simp) ?_
                refine AllReadyH.cons rfl (fun K hK => ?_) AllReadyH.nil
                go_simp
                refine hK.out _ _ e2 (fun hHeld => ?_)
                clear hK K
                refine takeD 6 (some 165) (.int .i64 (IntKind.wrap .i64 (H + h))) rfl rfl (by kernel_rfl) (by kernel_rfl) (by kernel_rfl) (fun _ _ _ h => h) (Or.inl ⟨by rfl, ?_⟩) hHeld ?_
                · intro w hSw
                  go_simp
                simp only [Act.put, List.setIfInBounds_toArray, List.set_cons_zero, List.set_cons_succ]
                refine takeD 7 (some 166) (.pointer (some ⟨wj.heap.size, 1, none⟩)) rfl rfl (by kernel_rfl) (by kernel_rfl) (by kernel_rfl) (fun _ _ _ h => h) (Or.inl ⟨by rfl, ?_⟩) hHeld ?_
                · intro w hSw
                  go_simp
                simp only [Act.put, List.setIfInBounds_toArray, List.set_cons_zero, List.set_cons_succ]
                refine wpAnyH_ready (rs := [8]) (by kernel_rfl) (by simp) ?_
                refine AllReadyH.cons rfl (fun K hK => ?_) AllReadyH.nil
                go_simp
                obtain ⟨w8, hw8⟩ : ∃ z, z = (w7.setCell ⟨wj.heap.size, 1, none⟩ (.int .i64 (IntKind.wrap .i64 (H + h)))).drew := ⟨_, rfl⟩
                rw [← hw8]
                have hb78 : Below wj.heap.size w7 w8 := by rw [hw8]; exact ((only_setCell w7 wj.heap.size 1 (.int .i64 (IntKind.wrap .i64 (H + h)))).below (Nat.le_refl _)).drew
                have HB8 : Hid (Below wj.heap.size wj w8) := HB7.out.trans hb78
                have HQ8 : Hid (w8.heap[wj.heap.size]? = some (.cells #[.int .i64 kd, .int .i64 (IntKind.wrap .i64 (H + h)), .int .i64 R, .int .i64 f, .int .i64 V, .bool nl, .string s] 28 (0, 0))) := by
                  have h5 : w7.heap[wj.heap.size]? = some (.cells #[.int .i64 kd, .int .i64 H, .int .i64 R, .int .i64 f, .int .i64 V, .bool nl, .string s] 28 (0, 0)) := HQ7.out
                  unfold Hid
                  rw [hw8]
                  show (w7.setCell ⟨wj.heap.size, 1, none⟩ (.int .i64 (IntKind.wrap .i64 (H + h)))).heap[wj.heap.size]? = _
                  simp [World.setCell, Array.getElem?_modify, h5]
                refine hK.out _ _ ((HB8.out.cell (p := ⟨w6.heap.size, 35, none⟩) (by exact l1)).trans HIN5.out.tr.cl.two.height) (fun hHeld => ?_)
                clear hK K hHeld
                refine wpAnyH_done (by kernel_rfl) ?_ _
                have HIN8 := hide (HIN5.out.later HB8.out)
                clear hw8 hb78 HB8 HB7 HQ7 e1 e2 e3 e1' e3' l1 l2 HIN5 d3 HRGM
                obtain ⟨H2, hH2⟩ : ∃ z, z = IntKind.wrap .i64 (H + h) := ⟨_, rfl⟩
                rw [← hH2] at HQ8 ⊢
                clear hH2
                have HEN := hide (fun W => refEncode_any kd H2 R f V nl s W HZM.out.1 HZM.out.2.1 HZM.out.2.2)
                go_wp2_with (first | (refine wpList_load_row rfl 28 _ rfl wj.heap.size rfl 28 #[.int .i64 kd, .int .i64 H2, .int .i64 R, .int .i64 f, .int .i64 V, .bool nl, .string s] (0, 0) _ HQ8.out Tryd.underlying28 rfl Tryd.sizeMsgK ?_) | fail)
                refine (HEN.out _).mono ?_
                rintro e w9 ⟨rfl, hb9⟩
                have HIN9 := hide (HIN8.out.later hb9)
                have HQ9 := hide (blk HQ8.out hb9)
                clear hb9 HEN HIN8 HQ8
                obtain ⟨enc, henc⟩ : ∃ t, t = encS kd H2 R f V nl s := ⟨_, rfl⟩
                rw [← henc]
                cases hh : hasB kd H2 R f V nl s.size with
                | false =>
                  clear henc
                  go_wp2
                  go_roundw
                  case rel => exact ⟨m + 1, HMO.out, by go_num, HIN9.out.wide (by omega) (by omega)⟩
                  case measure => have := HMO.out; simp [intOf]; omega
                | true =>
                  have HES : Hid (enc.size ≤ maxLen) := by unfold Hid; rw [henc]; exact enc_small hh
                  have hfb := of_decide_eq_true hh
                  obtain ⟨fi, rfl⟩ : ∃ fi : Nat, f = (fi : Int) := ⟨f.toNat, by omega⟩
                  have hf8 : fi < 8 := by omega
                  have hf82 : (fi : Int) < 8 := by omega
                  clear henc hh hfb
                  have d5 : w9.cell? ⟨wk.heap.size, 5, none⟩ = some (.bool uns) := cell_of_row w9 wk.heap.size 5 _ _ _ HIN9.out.tr.tr
                  have d6 : w9.cell? ⟨wj.heap.size, 3, none⟩ = some (.int .i64 (fi : Int)) := cell_of_row w9 wj.heap.size 3 _ _ _ HQ9.out
                  cases uns with
                  | true =>
                    have hlx : L5.length ≤ 3145728 := by have := HIN9.out.len; have := HRN.out; have := HON.out; have := HMO.out; omega
                    have hwb9 : wk.heap.size ≤ w9.heap.size := HIN9.out.tr.bnd.1
                    go_wp2_with (first | (at_builtin; refine wpList_append_at _ rfl _ _ 39 rfl wk.heap.size 9 i9 (.string ByteArray.empty) 1 16 Tryd.underlying39 hi9 hz0 hz1 hz2 rfl (by decide) _ _ _ rfl (HIN9.out.later ((Below.refl _ w9).alloc (Nat.le_refl _) (.cells #[.string enc] 9))).tr.all ⟨w9.heap.size, 0, none⟩ 1 1 [.string enc] rfl rfl ?c1 ?c2 ?c3 ?c4 ?c5 ?_) | go_in)
                    case c1 =>
                      intro j u hj
                      match j, hj with
                      | 0, hj => simp at hj; subst hj; simp [Addr.add]
                    case c2 => first | rfl | (intro u hu; simp at hu; subst hu; rfl)
                    case c3 => unfold maxLen; omega
                    case c4 => omega
                    case c5 => first | omega | (simp; omega)
                    intro v10 w10 hown hgrow hat
                    have HIN10 := hide (HIN9.out.more HB0.out ((Below.refl _ w9).alloc (Nat.le_refl _) (.cells #[.string enc] 9)) HES.out hown hgrow (by simpa using hat))
                    clear hown hgrow hat HIN9
                    go_wp2
                    go_roundw
                    case rel => exact ⟨m + 1, HMO.out, by go_num, HIN10.out.wide (by omega) (by omega)⟩
                    case measure => have := HMO.out; simp [intOf]; omega
                  | false =>
                    obtain ⟨kg, rfl, hck⟩ := keys_atK HIN9.out.tr.cl.keys fi hf8
                    have HSG := hide (sign_any F5 base 8 (ks fi) fi sg5 enc w9 HIN9.out.tr.cl.ring hf8 (HIN9.out.tr.cl.key fi hf8) (by have := HIN9.out.sgl fi; have := HKT.out; have := HTN.out; have := HON.out; have := HMO.out; omega) (fun j hj => (HIN9.out.tr.cl.flt j hj).2))
                    go_wp2_with fail
                    refine HSG.out.mono ?_
                    rintro e w11 ⟨rfl, hsp⟩
                    obtain ⟨F11, hin11⟩ := HIN9.out.signed HB0.out hsp
                    have HIN11 := hide hin11
                    have hlx : L5.length ≤ 3145728 := by have := HIN11.out.len; have := HRN.out; have := HON.out; have := HMO.out; omega
                    have hwb9 : wk.heap.size ≤ w11.heap.size := HIN11.out.tr.bnd.1
                    clear hsp hin11 HSG HIN9 d5 d6 hck
                    go_wp2_with (first | (at_builtin; refine wpList_append_at _ rfl _ _ 39 rfl wk.heap.size 9 i9 (.string ByteArray.empty) 1 16 Tryd.underlying39 hi9 hz0 hz1 hz2 rfl (by decide) _ _ _ rfl (HIN11.out.later ((Below.refl _ w11).alloc (Nat.le_refl _) (.cells #[.string enc] 9))).tr.all ⟨w11.heap.size, 0, none⟩ 1 1 [.string enc] rfl rfl ?c1 ?c2 ?c3 ?c4 ?c5 ?_) | go_in)
                    case c1 =>
                      intro j u hj
                      match j, hj with
                      | 0, hj => simp at hj; subst hj; simp [Addr.add]
                    case c2 => first | rfl | (intro u hu; simp at hu; subst hu; rfl)
                    case c3 => unfold maxLen; omega
                    case c4 => omega
                    case c5 => first | omega | (simp; omega)
                    intro v10 w10 hown hgrow hat
                    have HIN10 := hide (HIN11.out.more HB0.out ((Below.refl _ w11).alloc (Nat.le_refl _) (.cells #[.string enc] 9)) HES.out hown hgrow (by simpa using hat))
                    clear hown hgrow hat HIN11
                    go_wp2
                    go_roundw
                    case rel => exact ⟨m + 1, HMO.out, by go_num, HIN10.out.wide (by omega) (by omega)⟩
                    case measure => have := HMO.out; simp [intOf]; omega
          · have hq7 : q < 8 := by omega
            have hq72 : (q : Int) < 8 := by omega
            obtain ⟨F5, sg5, L5, hin5⟩ := hin
            have HIN5 := hide hin5
            clear hin5 hq8 hq
            have c1 : wq.cell? ⟨w6.heap.size, 35, none⟩ = some (.int .i64 h) := HIN5.out.tr.cl.two.height
            have c2 : wq.cell? ⟨wk.heap.size, 6, none⟩ = some (.int .i64 tht) := cell_of_row wq wk.heap.size 6 _ _ _ HIN5.out.tr.tr
            have c3 : wq.cell? ⟨wk.heap.size, 2, none⟩ = some (.int .i64 rnd) := cell_of_row wq wk.heap.size 2 _ _ _ HIN5.out.tr.tr
            have c4 : wq.cell? ⟨wk.heap.size, 0, none⟩ = some (.string block) := cell_of_row wq wk.heap.size 0 _ _ _ HIN5.out.tr.tr
            have l1 : w6.heap.size < wq.heap.size := World.block_lt_of_cell? _ _ c1
            have l2 : wk.heap.size < wq.heap.size := World.block_lt_of_cell? _ _ c2
            go_wp2_with fail
            refine wp_region_held_drew (S := fun W => W.cell? ⟨w6.heap.size, 35, none⟩ = some (.int .i64 h) ∧ W.cell? ⟨wk.heap.size, 6, none⟩ = some (.int .i64 tht) ∧ W.cell? ⟨wk.heap.size, 2, none⟩ = some (.int .i64 rnd) ∧ W.cell? ⟨wk.heap.size, 0, none⟩ = some (.string block)) (by kernel_rfl) ⟨c1, c2, c3, c4⟩ (fun hHeld => ?_)
            refine takeD 0 (some 110) (.pointer (some ⟨w6.heap.size, 0, none⟩)) rfl rfl (by kernel_rfl) (by kernel_rfl) (by kernel_rfl) (fun _ _ _ h => h) (Or.inl ⟨by rfl, ?_⟩) hHeld ?_
            · intro w hSw
              go_simp
            simp only [Act.put, List.setIfInBounds_toArray, List.set_cons_zero, List.set_cons_succ]
            refine takeD 1 (some 111) (.pointer (some ⟨w6.heap.size, 0, none⟩)) rfl rfl (by kernel_rfl) (by kernel_rfl) (by kernel_rfl) (fun _ _ _ h => h) (Or.inl ⟨by rfl, ?_⟩) hHeld ?_
            · intro w hSw
              go_simp
            simp only [Act.put, List.setIfInBounds_toArray, List.set_cons_zero, List.set_cons_succ]
            refine takeD 2 (some 112) (.pointer (some ⟨w6.heap.size, 35, none⟩)) rfl rfl (by kernel_rfl) (by kernel_rfl) (by kernel_rfl) (fun _ _ _ h => h) (Or.inl ⟨by rfl, ?_⟩) hHeld ?_
            · intro w hSw
              go_simp
            simp only [Act.put, List.setIfInBounds_toArray, List.set_cons_zero, List.set_cons_succ]
            refine takeD 3 (some 113) (.int .i64 h) rfl rfl (by kernel_rfl) (by kernel_rfl) (by kernel_rfl) (fun _ _ _ h => h) (Or.inl ⟨by rfl, ?_⟩) hHeld ?_
            · intro w hSw
              have hcx := hSw.1
              go_simp
            simp only [Act.put, List.setIfInBounds_toArray, List.set_cons_zero, List.set_cons_succ]
            refine takeD 4 (some 114) (.pointer (some ⟨wk.heap.size, 6, none⟩)) rfl rfl (by kernel_rfl) (by kernel_rfl) (by kernel_rfl) (fun _ _ _ h => h) (Or.inl ⟨by rfl, ?_⟩) hHeld ?_
            · intro w hSw
              go_simp
            simp only [Act.put, List.setIfInBounds_toArray, List.set_cons_zero, List.set_cons_succ]
            refine takeD 5 (some 115) (.int .i64 tht) rfl rfl (by kernel_rfl) (by kernel_rfl) (by kernel_rfl) (fun _ _ _ h => h) (Or.inl ⟨by rfl, ?_⟩) hHeld ?_
            · intro w hSw
              have hcx := hSw.2.1
              go_simp
            simp only [Act.put, List.setIfInBounds_toArray, List.set_cons_zero, List.set_cons_succ]
            refine takeD 6 (some 116) (.int .i64 (IntKind.wrap .i64 (h + tht))) rfl rfl (by kernel_rfl) (by kernel_rfl) (by kernel_rfl) (fun _ _ _ h => h) (Or.inl ⟨by rfl, ?_⟩) hHeld ?_
            · intro w hSw
              go_simp
            simp only [Act.put, List.setIfInBounds_toArray, List.set_cons_zero, List.set_cons_succ]
            refine takeD 7 (some 117) (.pointer (some ⟨wk.heap.size, 2, none⟩)) rfl rfl (by kernel_rfl) (by kernel_rfl) (by kernel_rfl) (fun _ _ _ h => h) (Or.inl ⟨by rfl, ?_⟩) hHeld ?_
            · intro w hSw
              go_simp
            simp only [Act.put, List.setIfInBounds_toArray, List.set_cons_zero, List.set_cons_succ]
            refine takeD 8 (some 118) (.int .i64 rnd) rfl rfl (by kernel_rfl) (by kernel_rfl) (by kernel_rfl) (fun _ _ _ h => h) (Or.inl ⟨by rfl, ?_⟩) hHeld ?_
            · intro w hSw
              have hcx := hSw.2.2.1
              go_simp
            simp only [Act.put, List.setIfInBounds_toArray, List.set_cons_zero, List.set_cons_succ]
            refine takeD 9 (some 119) (.int .i64 (q : Int)) rfl rfl (by kernel_rfl) (by kernel_rfl) (by kernel_rfl) (fun _ _ _ h => h) (Or.inl ⟨by rfl, ?_⟩) hHeld ?_
            · intro w hSw
              go_simp
            simp only [Act.put, List.setIfInBounds_toArray, List.set_cons_zero, List.set_cons_succ]
            refine takeD 10 (some 120) (.pointer (some ⟨wk.heap.size, 0, none⟩)) rfl rfl (by kernel_rfl) (by kernel_rfl) (by kernel_rfl) (fun _ _ _ h => h) (Or.inl ⟨by rfl, ?_⟩) hHeld ?_
            · intro w hSw
              go_simp
            simp only [Act.put, List.setIfInBounds_toArray, List.set_cons_zero, List.set_cons_succ]
            refine takeD 11 (some 121) (.string block) rfl rfl (by kernel_rfl) (by kernel_rfl) (by kernel_rfl) (fun _ _ _ h => h) (Or.inl ⟨by rfl, ?_⟩) hHeld ?_
            · intro w hSw
              have hcx := hSw.2.2.2
              go_simp
            simp only [Act.put, List.setIfInBounds_toArray, List.set_cons_zero, List.set_cons_succ]
            refine takeD 12 (some 122) (.agg #[.int .i64 3, .int .i64 (IntKind.wrap .i64 (h + tht)), .int .i64 rnd, .int .i64 (q : Int), .int .i64 0, .bool false, .string block]) rfl rfl (by kernel_rfl) (by kernel_rfl) (by kernel_rfl) (fun _ _ _ h => h) (Or.inl ⟨by rfl, ?_⟩) hHeld ?_
            · intro w hSw
              go_simp
            simp only [Act.put, List.setIfInBounds_toArray, List.set_cons_zero, List.set_cons_succ]
            refine wpAnyH_ready (rs := [13]) (by kernel_rfl) (by simp) ?_
            refine AllReadyH.cons rfl (fun K hK => ?_) AllReadyH.nil
            go_simp
            refine hK.out _ _ ⟨(World.cell?_of_block (w := wq) (a := ⟨w6.heap.size, 35, none⟩) (Below.heap_alloc wq _ w6.heap.size l1)).trans c1, (World.cell?_of_block (w := wq) (a := ⟨wk.heap.size, 6, none⟩) (Below.heap_alloc wq _ wk.heap.size l2)).trans c2, (World.cell?_of_block (w := wq) (a := ⟨wk.heap.size, 2, none⟩) (Below.heap_alloc wq _ wk.heap.size l2)).trans c3, (World.cell?_of_block (w := wq) (a := ⟨wk.heap.size, 0, none⟩) (Below.heap_alloc wq _ wk.heap.size l2)).trans c4⟩ (fun hHeld => ?_)
            clear hK K
            refine wpAnyH_ready (rs := [14]) (by kernel_rfl) (by simp) ?_
            refine AllReadyH.cons rfl (fun K hK => ?_) AllReadyH.nil
            rw [if_pos (by rfl)]
            refine wp_store_new 28 _ _ rfl wq.drew #[.int .i64 3, .int .i64 (IntKind.wrap .i64 (h + tht)), .int .i64 rnd, .int .i64 (q : Int), .int .i64 0, .bool false, .string block] rfl rfl 28 _ rfl (by simp [Value.oneCell']) Tryd.sizeMsgK ?_
            intro w7 hq7' hb7' hz7
            have hb7 : Below wq.heap.size wq w7 := ((Below.refl wq.heap.size wq).drew).trans hb7'
            refine hK.out _ _ ⟨(hb7.cell (p := ⟨w6.heap.size, 35, none⟩) (by exact l1)).trans c1, (hb7.cell (p := ⟨wk.heap.size, 6, none⟩) (by exact l2)).trans c2, (hb7.cell (p := ⟨wk.heap.size, 2, none⟩) (by exact l2)).trans c3, (hb7.cell (p := ⟨wk.heap.size, 0, none⟩) (by exact l2)).trans c4⟩ (fun hHeld => ?_)
            clear hK K hHeld
            refine wpAnyH_done (by kernel_rfl) ?_ _
            have HQ7 : Hid (w7.heap[wq.heap.size]? = some (.cells #[.int .i64 3, .int .i64 (IntKind.wrap .i64 (h + tht)), .int .i64 rnd, .int .i64 (q : Int), .int .i64 0, .bool false, .string block] 28 (0, 0))) := hq7'
            have HIN7 := hide (HIN5.out.later hb7)
            clear hq7' hb7' hz7 hb7 c1 c2 c3 c4 l1 l2 HIN5
            obtain ⟨H, hH⟩ : ∃ z, z = IntKind.wrap .i64 (h + tht) := ⟨_, rfl⟩
            rw [← hH] at HQ7 ⊢
            clear hH
            have HEN := hide (fun W => refEncode_any 3 H rnd (q : Int) 0 false block W (by have := HBSZ.out; unfold maxLen; exact Nat.le_trans this (by decide)) (by decide) (by decide))
            go_wp2_with (first | (refine wpList_load_row rfl 28 _ rfl wq.heap.size rfl 28 #[.int .i64 3, .int .i64 H, .int .i64 rnd, .int .i64 (q : Int), .int .i64 0, .bool false, .string block] (0, 0) _ HQ7.out Tryd.underlying28 rfl Tryd.sizeMsgK ?_) | fail)
            refine (HEN.out _).mono ?_
            rintro e w8 ⟨rfl, hb8⟩
            have HIN8 := hide (HIN7.out.later hb8)
            clear hb8 HEN HIN7 HQ7
            obtain ⟨enc, henc⟩ : ∃ t, t = encS 3 H rnd (q : Int) 0 false block := ⟨_, rfl⟩
            rw [← henc]
            have c5 : w8.cell? ⟨wk.heap.size, 1, none⟩ = some (.int .i64 who) := cell_of_row w8 wk.heap.size 1 _ _ _ HIN8.out.tr.tr
            cases hbit : (bits BinOp.and IntKind.i64 (who / 2 ^ q) 1 == 1) with
            | false =>
              clear henc
              go_wp2
              go_roundw
              case rel => exact ⟨q + 1, by omega, by go_num, HIN8.out.wide (by omega) (by omega)⟩
              case measure => simp [intOf]; omega
            | true =>
              cases hh : hasB 3 H rnd (q : Int) 0 false block.size with
              | false =>
                clear henc
                go_wp2
                go_roundw
                case rel => exact ⟨q + 1, by omega, by go_num, HIN8.out.wide (by omega) (by omega)⟩
                case measure => simp [intOf]; omega
              | true =>
                have HES : Hid (enc.size ≤ maxLen) := by unfold Hid; rw [henc]; exact enc_small hh
                clear henc hh
                obtain ⟨kg, rfl, hck⟩ := keys_atK HIN8.out.tr.cl.keys q hq7
                have HSG := hide (sign_any F5 base 8 (ks q) q sg5 enc w8 HIN8.out.tr.cl.ring hq7 (HIN8.out.tr.cl.key q hq7) (by have := HIN8.out.sgl q; have := HKT.out; have := HTN.out; omega) (fun j hj => (HIN8.out.tr.cl.flt j hj).2))
                go_wp2_with fail
                refine HSG.out.mono ?_
                rintro e w9 ⟨rfl, hsp⟩
                obtain ⟨F9, hin9⟩ := HIN8.out.signed HB0.out hsp
                have HIN9 := hide hin9
                have hlx : L5.length ≤ 2097152 := by have := HIN9.out.len; have := HRN.out; omega
                have hwb9 : wk.heap.size ≤ w9.heap.size := HIN9.out.tr.bnd.1
                clear hsp hin9 HSG c5 HIN8
                go_wp2_with (first | (at_builtin; refine wpList_append_at _ rfl _ _ 39 rfl wk.heap.size 9 i9 (.string ByteArray.empty) 1 16 Tryd.underlying39 hi9 hz0 hz1 hz2 rfl (by decide) _ _ _ rfl (HIN9.out.later ((Below.refl _ w9).alloc (Nat.le_refl _) (.cells #[.string enc] 9))).tr.all ⟨w9.heap.size, 0, none⟩ 1 1 [.string enc] rfl rfl ?c1 ?c2 ?c3 ?c4 ?c5 ?_) | go_in)
                case c1 =>
                  intro j u hj
                  match j, hj with
                  | 0, hj => simp at hj; subst hj; simp [Addr.add]
                case c2 => first | rfl | (intro u hu; simp at hu; subst hu; rfl)
                case c3 => unfold maxLen; omega
                case c4 => omega
                case c5 => first | omega | (simp; omega)
                intro v10 w10 hown hgrow hat
                have HIN10 := hide (HIN9.out.more HB0.out ((Below.refl _ w9).alloc (Nat.le_refl _) (.cells #[.string enc] 9)) HES.out hown hgrow (by simpa using hat))
                clear hown hgrow hat HIN9
                go_wp2
                go_roundw
                case rel => exact ⟨q + 1, by omega, by go_num, HIN10.out.wide (by omega) (by omega)⟩
                case measure => simp [intOf]; omega

end Go.Proofs.YtcfjhbcpjpgodaaDoor
