/- Proved here: what Follow makes, what Accept answers and leaves, what Height and Registry tell. · Proved here: what Follow makes; what a client's Height and Registry tell. -/
import Derived.Test.YtcfjhbcpjpgodaaGreatDoorOpenAll
import Derived.Test.YtcfjhbcpjpgodaaGreatDoorJ24
import Derived.Test.YtcfjhbcpjpgodaaGreatDoorJ45
import Derived.Test.YtcfjhbcpjpgodaaGreatDoorProgBehind
import Derived.Test.YtcfjhbcpjpgodaaGreatDoorJ9
import Derived.Test.YtcfjhbcpjpgodaaGreatDoorBase
import Derived.Test.YtcfjhbcpjpgodaaGreatDoorJ46
import Derived.Lib.SlBuf
import Derived.Laws.MakeOwn
namespace Go.Proofs.YtcfjhbcpjpgodaaGreatDoor
open Go.RowKit

theorem own_msgsD {w : World} {base m : Nat} {v : Value} {fr : Nat → ByteArray} (h : w.ownsRow base 57 7 v m (msgL ((List.range m).map fun i => decV (fr i)))) : ∃ p c, v = .slice p m c ∧ MsgsAt w w.heap.size p m (fun i => decV (fr i)) := by
  obtain ⟨L, hL⟩ : ∃ L, L = (List.range m).map fun i => decV (fr i) := ⟨_, rfl⟩
  have hl : L.length = m := by rw [hL]; simp
  rw [← hL, ← hl] at h
  obtain ⟨p, c, e, hm⟩ := own_msgs h
  rw [hl] at e hm
  refine ⟨p, c, e, fun i hi => ?_⟩
  have h1 := hm i hi
  have e1 : L.getD i msg0 = decV (fr i) := by rw [hL, List.getD_eq_getElem?_getD]; simp [hi]
  simp only [e1] at h1
  exact h1

section
variable {P : Program}
/-- A row is stored into the middle of a block. -/
theorem wpList_store_midG {ops : Array Oper} {rest : List Oper} {op : Oper} {a : Act} {w : World} {Q : Exit → Act → World → Prop} (hgd : op.guard = none) (ty : TypeId) (p y : Operand) (ho : op.op = .store ty p y)
    (g off : Nat) (D : Array Value) (hp : a.eval p = .pointer (some ⟨g, off, none⟩)) (hy : a.eval y = .agg D) (t : TypeId) (C : Array Value) (hg : w.heap[g]? = some (.cells C t (0, 0))) (hC : off + D.size ≤ C.size) (h1 : ∀ v ∈ D.toList, v.oneCell' = true) (hi : (P.info? ty).map (·.size) = some D.size)
    (h : ∀ w', w'.heap[g]? = some (.cells (C.toList.take off ++ D.toList ++ C.toList.drop (off + D.size)).toArray t (0, 0)) → Only g w w' → wpList P ops Q rest (a.put op.dst undef) w') : wpList P ops Q (op :: rest) a w :=
  wpList_plain hgd fun _ hK => by
    have hs := run_storeCells_at P g off t D.toList 0 C w hg (by simp; omega) h1
    have hr : (storeVar ty ⟨g, off, none⟩ (.agg D)).run P w = .ok () (w.setRow g (C.toList.take off ++ D.toList ++ C.toList.drop (off + D.size)).toArray) := by
      simp only [Nat.add_zero, Array.length_toList] at hs
      cases hq : P.info? ty with
      | none => simp [hq] at hi
      | some i =>
        have hz : i.size = D.size := by simpa [hq] using hi
        simp [storeVar, sizeOf, typeInfo, hq, Value.cells, hz, hs]
    unfold Oper.wp execOp
    simp only [ho, hp, hy, Instr.storeAt, Instr.sureAddr, Sem.run_bind, Sem.run_pure, Result.andThen_ok, hr]
    exact hK _ _ (h _ (setRow_heap _ _ C _ t (0, 0) hg) (only_setRow _ _ _))
end

theorem clientA_reg (rb : Nat) (x y : Nat → Int) (h : Int) : ((clientA rb x h).toList.take 1 ++ (regA y).toList ++ (clientA rb x h).toList.drop (1 + (regA y).size)).toArray = clientA rb y h := by
  unfold clientA regA
  simp [regL_length]
theorem clientA_height (rb : Nat) (x : Nat → Int) (h h' : Int) : (clientA rb x h).setIfInBounds 35 (.int .i64 h') = clientA rb x h' := by
  unfold clientA
  simp [regL_length]

theorem behindC_yes (x : Nat → Int) (s : ByteArray) (b : Addr) (m : Int) (z : Nat → Int) (w : World) (hx : Dom x) (hs : s.size < 4294967281) (hg : w.cell? ⟨11, 0, none⟩ = some (.iface 294 (.pointer (some b)))) (hm : w.cell? ⟨13, 0, none⟩ = some (.int .i64 m)) (h : (z, true) = behindR x s) :
    Calls Tryz.prog 94 #[.agg (regA x), .string s] w fun e w' => e = .returned (.tuple #[.agg (regA z), .nilIface]) ∧ Below w.heap.size w w' := by
  have := behindP_any x s b m w hx hs hg hm
  rw [← h] at this
  exact this
theorem behindC_no (x : Nat → Int) (s : ByteArray) (b : Addr) (m : Int) (z : Nat → Int) (w : World) (hx : Dom x) (hs : s.size < 4294967281) (hg : w.cell? ⟨11, 0, none⟩ = some (.iface 294 (.pointer (some b)))) (hm : w.cell? ⟨13, 0, none⟩ = some (.int .i64 m)) (h : (z, false) = behindR x s) :
    Calls Tryz.prog 94 #[.agg (regA x), .string s] w fun e w' => e = .returned (.tuple #[.agg (regA reg0), .iface 294 (.pointer (some b))]) ∧ Below w.heap.size w w' := by
  have := behindP_any x s b m w hx hs hg hm
  rw [← h] at this
  exact this

/-- Blocks other than g are as they were. -/
def ButP (g : Nat) (w w' : World) : Prop := SameBut (fun k => k = g) w w'
theorem ButP.of_below {g : Nat} {w w' : World} (h : Below w.heap.size w w') : ButP g w w' := ⟨h.os, h.tape, h.output, h.size, fun k hk _ => h.block k hk⟩

/-- What Accept answers and leaves. -/
def AcceptP (cb rb n : Nat) (sg : Nat → List ByteArray) (x : Nat → Int) (h : Int) (block : ByteArray) (fr : Nat → ByteArray) (m : Nat) (es : List Addr) (w : World) (e : Ending) (w' : World) : Prop :=
  (∃ c b, e = .returned (.iface 294 (.pointer (some b))) ∧ es[c]? = some b ∧ Below w.heap.size w w' ∧
    ((c = 11 ∧ (behindR x block).2 = false) ∨ (c = 1 ∧ (behindR x block).2 = true ∧ ∃ i, i < m ∧ decOk (fr i) = false) ∨
     (c = 2 ∧ (behindR x block).2 = true ∧ (∀ i, i < m → decOk (fr i) = true) ∧ ∃ i, i < m ∧ signedB sg n (decV (fr i)).f (fr i) = false) ∨
     (c = 9 ∧ (behindR x block).2 = true ∧ (∀ i, i < m → decOk (fr i) = true) ∧ (∀ i, i < m → signedB sg n (decV (fr i)).f (fr i) = true) ∧ ¬ CertOk x h block (fun i => decV (fr i)) m))) ∨
  (e = .returned .nilIface ∧ (behindR x block).2 = true ∧ (∀ i, i < m → decOk (fr i) = true) ∧ (∀ i, i < m → signedB sg n (decV (fr i)).f (fr i) = true) ∧ CertOk x h block (fun i => decV (fr i)) m ∧
    ClientAt w' cb rb (behindR x block).1 (h + 1) ∧ ButP cb w w')

set_option maxRecDepth 100000 in
set_option maxHeartbeats 6400000 in
theorem accept_any (F : Nat → Prop) (cb rb n : Nat) (sg : Nat → List ByteArray) (x : Nat → Int) (h : Int) (block : ByteArray) (fr : Nat → ByteArray) (p : Option Addr) (m cap : Nat) (es : List Addr) (a1 a2 a9 a11 : Addr) (mx : Int) (w : World) (hx : Dom x) (hh0 : 0 ≤ h) (hh : h ≤ 1000000000) (hs : block.size < 4294967281)
    (hc : ClientAt w cb rb x h) (hr : RingI F rb n sg w) (hlt : ∀ k, F k → k < w.heap.size) (hS : SentF es w) (he1 : es[1]? = some a1) (he2 : es[2]? = some a2) (he9 : es[9]? = some a9) (he11 : es[11]? = some a11) (hT : TypAt w) (hmx : w.cell? ⟨13, 0, none⟩ = some (.int .i64 mx))
    (hl : Lies w w.heap.size p m (fun i => .string (fr i))) (hm : m ≤ 1000000000) :
    Calls Tryz.prog 46 #[.pointer (some ⟨cb, 0, none⟩), .string block, .slice p m cap] w (AcceptP cb rb n sg x h block fr m es w) := by
  have HX := hide hx
  have HC := hide hc
  have HR := hide hr
  have HLT := hide hlt
  have HSE := hide hS
  have HE1 := hide he1
  have HE2 := hide he2
  have HE9 := hide he9
  have HE11 := hide he11
  have HT := hide hT
  have HL := hide hl
  have HM := hide hm
  have HMX := hide hmx
  have HSZ := hide hs
  have hc0 : w.cell? ⟨cb, 0, none⟩ = some (.pointer (some ⟨rb, 0, none⟩)) := hc.ring
  have hcbl : cb < w.heap.size := row_lt0 hc
  clear hx hc hr hlt hS he1 he2 he9 he11 hT hl hm hmx hs
  obtain ⟨z, hz⟩ : ∃ z, z = behindR x block := ⟨_, rfl⟩
  obtain ⟨y, o⟩ := z
  have HZ := hide hz
  have z0 := regA_zero
  clear hz
  cases o with
  | false =>
    go_enter Tryz.func46, Tryz.ntmps46
    go_wp2_with (first | (refine wpList_load_mid rfl 116 _ rfl cb 1 rfl (regL x) _ HC.out.reg Tryz.underlying116 rfl (by rw [Tryz.sizeRegistry]; simp [regL]) ?_) | fail)
    refine (behindC_no x block a11 mx y w HX.out HSZ.out (HSE.out.cell 11 _ _ rfl HE11.out) HMX.out HZ.out).mono ?_
    rintro e w1 ⟨rfl, hb1⟩
    have HB1 := hide hb1
    clear hb1
    go_wp2_with (first | (refine wpList_store_reg rfl 116 _ _ rfl w1.heap.size reg0 rfl rfl 116 (regA reg0) (heap_alloc_new w1 _) (regA_size _) Tryz.sizeRegistry ?_; intro w2 hq2 ho2; have HQ2 := hide hq2; have HB2 : Hid (Below w.heap.size w w2) := (HB1.out.alloc HB1.out.size _).trans (ho2.below HB1.out.size); have HZ2 : Hid (w1.heap.size < w2.heap.size) := row_lt0 hq2; have hcr : w2.cell? ⟨cb, 0, none⟩ = some (.pointer (some ⟨rb, 0, none⟩)) := (HB2.out.cell (p := ⟨cb, 0, none⟩) (by exact hcbl)).trans hc0; clear hq2 ho2) | fail)
    go_ret
    exact Or.inl ⟨11, a11, rfl, HE11.out, HB2.out, Or.inl ⟨rfl, by rw [← HZ.out]⟩⟩
  | true =>
    go_enter Tryz.func46, Tryz.ntmps46
    go_wp2_with (first | (refine wpList_load_mid rfl 116 _ rfl cb 1 rfl (regL x) _ HC.out.reg Tryz.underlying116 rfl (by rw [Tryz.sizeRegistry]; simp [regL]) ?_) | fail)
    refine (behindC_yes x block a11 mx y w HX.out HSZ.out (HSE.out.cell 11 _ _ rfl HE11.out) HMX.out HZ.out).mono ?_
    rintro e w1 ⟨rfl, hb1⟩
    have HB1 := hide hb1
    clear hb1
    go_wp2_with (first | (refine wpList_store_reg rfl 116 _ _ rfl w1.heap.size y rfl rfl 116 (regA reg0) (heap_alloc_new w1 _) (regA_size _) Tryz.sizeRegistry ?_; intro w2 hq2 ho2; have HQ2 := hide hq2; have HB2 : Hid (Below w.heap.size w w2) := (HB1.out.alloc HB1.out.size _).trans (ho2.below HB1.out.size); have HZ2 : Hid (w1.heap.size < w2.heap.size) := row_lt0 hq2; have hcr : w2.cell? ⟨cb, 0, none⟩ = some (.pointer (some ⟨rb, 0, none⟩)) := (HB2.out.cell (p := ⟨cb, 0, none⟩) (by exact hcbl)).trans hc0; clear hq2 ho2) | fail)
    have HS2 := hide (HSE.out.later HB2.out)
    have HG : Hid ((behindR x block).2 = true) := by unfold Hid; rw [← HZ.out]
    have HO := hide (openAll_any F rb n sg fr p m cap es a1 a2 w2 (HR.out.frame (fun k hk => HB2.out.block k (HLT.out k hk))) (fun k hk => Nat.lt_of_lt_of_le (HLT.out k hk) HB2.out.size) HS2.out HE1.out HE2.out ((HL.out.below HB2.out).more HB2.out.size) HM.out)
    refine HO.out.mono ?_
    clear HO
    rintro e w3 ⟨hb3, ⟨hok, hsg, v, rfl, hov⟩ | ⟨hno, g, f, hra, rfl⟩ | ⟨hok, hno, g, f, hra, rfl⟩⟩
    · obtain ⟨mp, mc, rfl, hms⟩ := own_msgsD hov
      have HOK := hide hok
      have HSG := hide hsg
      have HB3 : Hid (Below w.heap.size w w3) := HB2.out.trans (hb3.mono HB2.out.size)
      have HQ3 := hide (blk HQ2.out hb3)
      have HZ3 : Hid (w1.heap.size < w3.heap.size) := Nat.lt_of_lt_of_le HZ2.out hb3.size
      have HID := hide (isDecided_any cb rb x h block (fun i => decV (fr i)) mp m mc w3 HX.out (HC.out.keep HB3.out) hms (fun i hi => by have := decV_ok (HOK.out i hi); omega) HM.out)
      clear hok hsg hov hms hb3 hcr
      go_wp2_with fail
      refine HID.out.mono ?_
      clear HID
      rintro e w4 ⟨r, rfl, hiff, hb4⟩
      have HB4 : Hid (Below w.heap.size w w4) := HB3.out.trans (hb4.mono HB3.out.size)
      have HQ4 := hide (blk HQ3.out hb4)
      have HC4 := hide (HC.out.keep HB4.out)
      have hc9 : w4.cell? ⟨9, 0, none⟩ = some (.iface 294 (.pointer (some a9))) := (HSE.out.later HB4.out).cell 9 _ _ rfl HE9.out
      have HZ4 : Hid (w1.heap.size < w4.heap.size) := Nat.lt_of_lt_of_le HZ3.out hb4.size
      have HIF := hide hiff
      clear hiff hb4
      cases r with
      | false =>
        go_wp2
        go_ret
        exact Or.inl ⟨9, a9, rfl, HE9.out, HB4.out, Or.inr (Or.inr (Or.inr ⟨rfl, HG.out, HOK.out, HSG.out, fun hc => (by have := HIF.out.2 hc; cases this)⟩))⟩
      | true =>
        have hne : ¬ w1.heap.size = cb := by have := HB1.out.size; omega
        go_wp2_with (first | (refine wpList_load_reg rfl 116 _ rfl w1.heap.size rfl 116 y _ HQ4.out Tryz.underlying116 rfl Tryz.sizeRegistry ?_) | (refine wpList_store_midG rfl 116 _ _ rfl cb 1 (regA y) rfl rfl 170 _ HC4.out (by rw [clientA_size, regA_size]; decide) (regA_one y) (by rw [regA_size]; exact Tryz.sizeRegistry) ?_; intro w5 hq5 ho5; rw [clientA_reg] at hq5; have HC5 : Hid (ClientAt w5 cb rb y h) := hq5; have hch : w5.cell? ⟨cb, 35, none⟩ = some (.int .i64 h) := HC5.out.height; have hcf : w5.frozen? ⟨cb, 35, none⟩ = false := frozen_row HC5.out 35; have HO5 := hide ho5; clear hq5 ho5) | fail)
        go_ret
        refine Or.inr ⟨rfl, HG.out, HOK.out, HSG.out, HIF.out.1 (by trivial), ?_, ?_⟩
        · have h5 := HC5.out
          unfold ClientAt at h5 ⊢
          rw [← HZ.out, ← clientA_height rb y h (h + 1)]
          simp [World.setCell, Array.getElem?_modify, h5]
        · have hon := only_setCell w5 cb 35 (.int .i64 (h + 1))
          refine ⟨?_, ?_, ?_, ?_, fun k hk hne => ?_⟩
          · rw [hon.os, HO5.out.os, HB4.out.os]
          · rw [hon.tape, HO5.out.tape, HB4.out.tape]
          · rw [hon.output, HO5.out.output, HB4.out.output]
          · rw [hon.size, HO5.out.size]; exact HB4.out.size
          · rw [hon.block k hne, HO5.out.block k hne, HB4.out.block k hk]
    · have HNO := hide hno
      have HRA := hide hra
      have HB3 : Hid (Below w.heap.size w w3) := HB2.out.trans (hb3.mono HB2.out.size)
      clear hno hra hb3 hcr
      have HW := hide (why_any g f a1 w3 HRA.out (HT.out.below HB3.out))
      unfold refV at HW ⊢
      go_wp2_with fail
      refine HW.out.mono ?_
      rintro e w4 ⟨rfl, hb4⟩
      have HB4 : Hid (Below w.heap.size w w4) := HB3.out.trans (hb4.mono HB3.out.size)
      clear hb4
      go_wp2
      go_ret
      exact Or.inl ⟨1, a1, rfl, HE1.out, HB4.out, Or.inr (Or.inl ⟨rfl, HG.out, HNO.out⟩)⟩
    · have HNO := hide hno
      have HOK := hide hok
      have HRA := hide hra
      have HB3 : Hid (Below w.heap.size w w3) := HB2.out.trans (hb3.mono HB2.out.size)
      clear hno hra hok hb3 hcr
      have HW := hide (why_any g f a2 w3 HRA.out (HT.out.below HB3.out))
      unfold refV at HW ⊢
      go_wp2_with fail
      refine HW.out.mono ?_
      rintro e w4 ⟨rfl, hb4⟩
      have HB4 : Hid (Below w.heap.size w w4) := HB3.out.trans (hb4.mono HB3.out.size)
      clear hb4
      go_wp2
      go_ret
      exact Or.inl ⟨2, a2, rfl, HE2.out, HB4.out, Or.inr (Or.inr (Or.inl ⟨rfl, HG.out, HOK.out, HNO.out⟩))⟩

end Go.Proofs.YtcfjhbcpjpgodaaGreatDoor
namespace Go.Proofs.YtcfjhbcpjpgodaaGreatDoor
open Go.RowKit

theorem Tryz.buildClient (rb : Nat) (y : Nat → Int) (W : World) : (Instr.build 170 #[(0, .pointer (some ⟨rb, 0, none⟩)), (1, .agg (regA y))]).run Tryz.prog W = .ok (.agg (clientA rb y 0)) W := by kernel_rfl

theorem Tryz.boxClient (rb : Nat) (y : Nat → Int) (h : Int) (W : World) : (Instr.box 170 (.agg (clientA rb y h))).run Tryz.prog W = .ok (.pointer (some ⟨W.heap.size, 0, none⟩)) (W.alloc (.cells (clientA rb y h) 170)) := by kernel_rfl
section
variable {P : Program}
theorem wpList_build2 {ops : Array Oper} {rest : List Oper} {op : Oper} {a : Act} {w : World} {Q : Exit → Act → World → Prop} (hgd : op.guard = none) (t : TypeId) (i0 i1 : Nat) (x0 x1 : Operand) (ho : op.op = .build t #[(i0, x0), (i1, x1)]) (v0 v1 v : Value)
    (h0 : a.eval x0 = v0) (h1 : a.eval x1 = v1) (hr : (Instr.build t #[(i0, v0), (i1, v1)]).run P w = .ok v w) (h : wpList P ops Q rest (a.put op.dst v) w) : wpList P ops Q (op :: rest) a w :=
  wpList_plain hgd fun _ hK => by
    unfold Oper.wp execOp
    simp only [ho, List.map_toArray, List.map_cons, List.map_nil, h0, h1, hr, Sem.run_bind, Sem.run_pure, Result.andThen_ok]
    exact hK _ _ h
theorem wpList_box_run {ops : Array Oper} {rest : List Oper} {op : Oper} {a : Act} {w w' : World} {Q : Exit → Act → World → Prop} (hgd : op.guard = none) (t : TypeId) (x : Operand) (ho : op.op = .box t x) (vx v : Value)
    (hx : a.eval x = vx) (hr : (Instr.box t vx).run P w = .ok v w') (h : wpList P ops Q rest (a.put op.dst v) w') : wpList P ops Q (op :: rest) a w :=
  wpList_plain hgd fun _ hK => by
    unfold Oper.wp execOp
    simp only [ho, hx, hr, Sem.run_bind, Sem.run_pure, Result.andThen_ok]
    exact hK _ _ h
end

theorem genC_yes (g : Nat → Int) (p : Option Addr) (n cap : Nat) (b : Addr) (y : Nat → Int) (w : World) (hl : Lies w w.heap.size p n (fun i => .int .i64 (g i))) (hg : w.cell? ⟨1, 0, none⟩ = some (.iface 294 (.pointer (some b)))) (h : genR g n = (y, true)) :
    Calls Tryz.prog 52 #[.slice p n cap] w fun e w' => e = .returned (.tuple #[.agg (regA y), .nilIface]) ∧ Below w.heap.size w w' := by
  have := genP_any g p n cap b w hl hg
  rw [h] at this
  exact this

set_option maxRecDepth 100000 in
set_option maxHeartbeats 1600000 in
theorem follow_yes (rb : Nat) (g : Nat → Int) (p : Option Addr) (n cap : Nat) (b : Addr) (y : Nat → Int) (w : World) (hl : Lies w w.heap.size p n (fun i => .int .i64 (g i))) (hg : w.cell? ⟨1, 0, none⟩ = some (.iface 294 (.pointer (some b)))) (h : genR g n = (y, true)) :
    Calls Tryz.prog 33 #[.pointer (some ⟨rb, 0, none⟩), .slice p n cap] w fun e w' => ∃ cb, w.heap.size ≤ cb ∧ e = .returned (.tuple #[.pointer (some ⟨cb, 0, none⟩), .nilIface]) ∧ ClientAt w' cb rb y 0 ∧ Below w.heap.size w w' := by
  have HG := hide (genC_yes g p n cap b y w hl hg h)
  have z0 := regA_zero
  clear hl hg h
  go_enter Tryz.func33, Tryz.ntmps33
  go_wp2_with fail
  refine HG.out.mono ?_
  rintro e w1 ⟨rfl, hb1⟩
  have HB1 := hide hb1
  clear hb1
  go_wp2_with (first | (refine wpList_store_reg rfl 116 _ _ rfl w1.heap.size y rfl rfl 116 (regA reg0) (heap_alloc_new w1 _) (regA_size _) Tryz.sizeRegistry ?_; intro w2 hq2 ho2; have HQ2 := hide hq2; have HB2 : Hid (Below w.heap.size w w2) := (HB1.out.alloc HB1.out.size _).trans (ho2.below HB1.out.size); clear hq2 ho2) | (refine wpList_load_reg rfl 116 _ rfl w1.heap.size rfl 116 y _ HQ2.out Tryz.underlying116 rfl Tryz.sizeRegistry ?_) | (refine wpList_build2 rfl 170 0 1 _ _ rfl (.pointer (some ⟨rb, 0, none⟩)) (.agg (regA y)) _ rfl rfl (Tryz.buildClient rb y _) ?_) | (refine wpList_box_run rfl 170 _ rfl (.agg (clientA rb y 0)) _ rfl (Tryz.boxClient rb y 0 _) ?_) | fail)
  go_ret2
  exact ⟨w2.heap.size, HB2.out.size, rfl, heap_alloc_new w2 _, HB2.out.alloc HB2.out.size _⟩

end Go.Proofs.YtcfjhbcpjpgodaaGreatDoor
