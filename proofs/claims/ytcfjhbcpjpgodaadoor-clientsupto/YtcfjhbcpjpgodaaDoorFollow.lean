/- Proved here: what Follow makes; what a client's Height and Registry tell. -/
import Derived.Test.YtcfjhbcpjpgodaaDoorAccept
namespace Go.Proofs.YtcfjhbcpjpgodaaDoor
open Go.RowKit

theorem Tryd.buildClient (rb : Nat) (y : Nat → Int) (W : World) : (Instr.build 106 #[(0, .pointer (some ⟨rb, 0, none⟩)), (1, .agg (regA y))]).run Tryd.prog W = .ok (.agg (clientA rb y 0)) W := by kernel_rfl

theorem Tryd.boxClient (rb : Nat) (y : Nat → Int) (h : Int) (W : World) : (Instr.box 106 (.agg (clientA rb y h))).run Tryd.prog W = .ok (.pointer (some ⟨W.heap.size, 0, none⟩)) (W.alloc (.cells (clientA rb y h) 106)) := by kernel_rfl
theorem Tryd.sizeToldC : (Tryd.prog.info? 48).map (·.size) = some 3 := by kernel_rfl
section
variable {P : Program}
theorem wpList_build2 {ops : Array Oper} {rest : List Oper} {op : Oper} {a : Act} {w : World} {Q : Exit → Act → World → Prop} (hgd : op.guard = none) (t : TypeId) (i0 i1 : Nat) (x0 x1 : Operand) (ho : op.op = .build t #[(i0, x0), (i1, x1)]) (v0 v1 v : Value)
    (h0 : a.eval x0 = v0) (h1 : a.eval x1 = v1) (hr : (Instr.build t #[(i0, v0), (i1, v1)]).run P w = .ok v w) (h : wpList P ops Q rest (a.put op.dst v) w) : wpList P ops Q (op :: rest) a w :=
  wpList_plain hgd fun _ hK => by
    unfold Oper.wp execOp
    simp only [ho, List.map_toArray, List.map_cons, List.map_nil, h0, h1, hr, Sem.run_bind, Sem.run_pure, Result.andThen_ok]
    exact hK _ _ h
theorem wpList_box_run {ops : Array Oper} {rest : List Oper} {op : Oper} {a : Act} {w w' : World} {Q : Exit → Act → World → Prop} (hgd : op.guard = none) (t : TypeId) (x : Operand) (ho : op.op = .box t x) (vx v : Value)
    (hx : a.eval x = vx) (hr : (Instr.box t vx).run P w = .ok v w') (h : wpList P ops Q rest (a.put op.dst v) w') : wpList P ops Q (op :: rest) a w :=
  wpList_plain hgd fun _ hK => by
    unfold Oper.wp execOp
    simp only [ho, hx, hr, Sem.run_bind, Sem.run_pure, Result.andThen_ok]
    exact hK _ _ h
end

theorem clientHeight_any (cb rb : Nat) (x : Nat → Int) (h : Int) (w : World) (hc : ClientAt w cb rb x h) : Calls Tryd.prog 33 #[.pointer (some ⟨cb, 0, none⟩)] w fun e w' => e = .returned (.int .i64 h) ∧ w' = w := by
  have hch := hc.height
  clear hc
  go_enter Tryd.func33, Tryd.ntmps33
  go_wp2
  go_ret
  exact ⟨rfl, rfl⟩

theorem genC_no (g : Nat → Int) (p : Option Addr) (n cap : Nat) (b : Addr) (w : World) (hl : Lies w w.heap.size p n (fun i => .int .i64 (g i))) (hg : w.cell? ⟨0, 0, none⟩ = some (.iface 188 (.pointer (some b)))) (h : (genR g n).2 = false) :
    Calls Tryd.prog 39 #[.slice p n cap] w fun e w' => e = .returned (.tuple #[.agg (regA reg0), .iface 188 (.pointer (some b))]) ∧ Below w.heap.size w w' := by
  have := genP_any g p n cap b w hl hg
  unfold goodR errIf at this
  rw [h] at this
  exact this
theorem genC_yes (g : Nat → Int) (p : Option Addr) (n cap : Nat) (b : Addr) (y : Nat → Int) (w : World) (hl : Lies w w.heap.size p n (fun i => .int .i64 (g i))) (hg : w.cell? ⟨0, 0, none⟩ = some (.iface 188 (.pointer (some b)))) (h : genR g n = (y, true)) :
    Calls Tryd.prog 39 #[.slice p n cap] w fun e w' => e = .returned (.tuple #[.agg (regA y), .nilIface]) ∧ Below w.heap.size w w' := by
  have := genP_any g p n cap b w hl hg
  rw [h] at this
  exact this

set_option maxRecDepth 100000 in
set_option maxHeartbeats 1600000 in
theorem follow_no (rb : Nat) (g : Nat → Int) (p : Option Addr) (n cap : Nat) (b : Addr) (w : World) (hl : Lies w w.heap.size p n (fun i => .int .i64 (g i))) (hg : w.cell? ⟨0, 0, none⟩ = some (.iface 188 (.pointer (some b)))) (h : (genR g n).2 = false) :
    Calls Tryd.prog 26 #[.pointer (some ⟨rb, 0, none⟩), .slice p n cap] w fun e w' => e = .returned (.tuple #[.pointer none, .iface 188 (.pointer (some b))]) ∧ Below w.heap.size w w' := by
  have HG := hide (genC_no g p n cap b w hl hg h)
  have z0 := regA_zero
  clear hl hg h
  go_enter Tryd.func26, Tryd.ntmps26
  go_wp2_with fail
  refine HG.out.mono ?_
  rintro e w1 ⟨rfl, hb1⟩
  have HB1 := hide hb1
  clear hb1
  go_wp2_with (first | (refine wpList_store_reg rfl 92 _ _ rfl w1.heap.size reg0 rfl rfl 92 (regA reg0) (heap_alloc_new w1 _) (regA_size _) Tryd.sizeRegistry ?_; intro w2 hq2 ho2; have HB2 : Hid (Below w.heap.size w w2) := (HB1.out.alloc HB1.out.size _).trans (ho2.below HB1.out.size); clear hq2 ho2) | fail)
  go_ret2
  exact ⟨rfl, HB2.out⟩

set_option maxRecDepth 100000 in
set_option maxHeartbeats 1600000 in
theorem follow_yes (rb : Nat) (g : Nat → Int) (p : Option Addr) (n cap : Nat) (b : Addr) (y : Nat → Int) (w : World) (hl : Lies w w.heap.size p n (fun i => .int .i64 (g i))) (hg : w.cell? ⟨0, 0, none⟩ = some (.iface 188 (.pointer (some b)))) (h : genR g n = (y, true)) :
    Calls Tryd.prog 26 #[.pointer (some ⟨rb, 0, none⟩), .slice p n cap] w fun e w' => ∃ cb, w.heap.size ≤ cb ∧ e = .returned (.tuple #[.pointer (some ⟨cb, 0, none⟩), .nilIface]) ∧ ClientAt w' cb rb y 0 ∧ Below w.heap.size w w' := by
  have HG := hide (genC_yes g p n cap b y w hl hg h)
  have z0 := regA_zero
  clear hl hg h
  go_enter Tryd.func26, Tryd.ntmps26
  go_wp2_with fail
  refine HG.out.mono ?_
  rintro e w1 ⟨rfl, hb1⟩
  have HB1 := hide hb1
  clear hb1
  go_wp2_with (first | (refine wpList_store_reg rfl 92 _ _ rfl w1.heap.size y rfl rfl 92 (regA reg0) (heap_alloc_new w1 _) (regA_size _) Tryd.sizeRegistry ?_; intro w2 hq2 ho2; have HQ2 := hide hq2; have HB2 : Hid (Below w.heap.size w w2) := (HB1.out.alloc HB1.out.size _).trans (ho2.below HB1.out.size); clear hq2 ho2) | (refine wpList_load_reg rfl 92 _ rfl w1.heap.size rfl 92 y _ HQ2.out Tryd.underlying92 rfl Tryd.sizeRegistry ?_) | (refine wpList_build2 rfl 106 0 1 _ _ rfl (.pointer (some ⟨rb, 0, none⟩)) (.agg (regA y)) _ rfl rfl (Tryd.buildClient rb y _) ?_) | (refine wpList_box_run rfl 106 _ rfl (.agg (clientA rb y 0)) _ rfl (Tryd.boxClient rb y 0 _) ?_) | fail)
  go_ret2
  exact ⟨w2.heap.size, HB2.out.size, rfl, heap_alloc_new w2 _, HB2.out.alloc HB2.out.size _⟩

set_option maxRecDepth 100000 in
set_option maxHeartbeats 1600000 in
theorem clientRegistry_any (cb rb : Nat) (x : Nat → Int) (h : Int) (w : World) (hc : ClientAt w cb rb x h) (hx : Dom x) :
    Calls Tryd.prog 32 #[.pointer (some ⟨cb, 0, none⟩)] w fun e w' => ∃ p r, e = .returned (.agg #[p, .string (nameB (memb x 26)), r]) ∧ w'.ownsRow w.heap.size 3 1 p 8 (powL x 8) ∧ w'.ownsRow w.heap.size 3 1 r (memb x 26).length (roleL x (memb x 26)) ∧ (∀ g, p.ownBlock = some g → r.ownBlock ≠ some g) ∧ Below w.heap.size w w' := by
  have HC := hide hc
  have HX := hide hx
  clear hc hx
  go_enter Tryd.func32, Tryd.ntmps32
  have HC2 := hide (HC.out.keep ((Below.refl _ w).alloc (Nat.le_refl _) (.cells #[.slice none 0 0, .string ⟨#[]⟩, .slice none 0 0] 48)))
  go_wp2_with (first | (refine wpList_load_mid rfl 92 _ rfl cb 1 rfl (regL x) _ HC2.out.reg Tryd.underlying92 rfl (by rw [Tryd.sizeRegistry]; simp [regL]) ?_) | fail)
  refine (tell_any x _ HX.out).mono ?_
  rintro e w1 ⟨p, r, rfl, hp, hr, hpr, hb1⟩
  obtain ⟨pp, pc, rfl⟩ := own_slice hp
  obtain ⟨rp, rc, rfl⟩ := own_slice hr
  have HP := hide hp
  have HRR := hide hr
  have HPR := hide hpr
  have HB1 := hide hb1
  have HQ0 : Hid (w1.heap[w.heap.size]? = some (.cells #[.slice none 0 0, .string ⟨#[]⟩, .slice none 0 0] 48 (0, 0))) := blk (heap_alloc_new w _) hb1
  clear hp hr hpr hb1
  go_wp2_with (first | (refine wpList_store_rowG rfl 48 _ _ rfl w.heap.size #[.slice pp 8 pc, .string (nameB (memb x 26)), .slice rp (memb x 26).length rc] rfl rfl 48 _ HQ0.out rfl (by simp [Value.oneCell']) Tryd.sizeToldC ?_; intro w3 hq3 ho3) | fail)
  have hsz : w.heap.size + 1 ≤ w1.heap.size := by have := HB1.out.size; simp at this; omega
  have keep : ∀ {e n : Nat} {v : Value} {xs : List Value}, w1.ownsRow (w.alloc (.cells #[.slice none 0 0, .string ⟨#[]⟩, .slice none 0 0] 48)).heap.size e 1 v n xs → w3.ownsRow w.heap.size e 1 v n xs := fun h => own_base (own_blocks h (fun g hg hlt => ho3.block g (fun e => by have := (h.lt g hg).1; simp at this; omega))) (by simp)
  exact bodyPost_ret (v := .agg #[.slice pp 8 pc, .string (nameB (memb x 26)), .slice rp (memb x 26).length rc]) (results_rowG1 Tryd.results32 _ _ w.heap.size 48 _ _ rfl hq3 Tryd.underlying48 rfl Tryd.sizeToldC) rfl ⟨_, _, rfl, keep HP.out, keep HRR.out, HPR.out, (((Below.refl _ w).alloc (Nat.le_refl _) _).trans (HB1.out.mono (by simp))).trans (ho3.below (Nat.le_refl _))⟩

end Go.Proofs.YtcfjhbcpjpgodaaDoor
