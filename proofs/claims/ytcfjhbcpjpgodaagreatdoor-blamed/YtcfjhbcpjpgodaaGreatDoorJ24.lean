/- Proved here: what the program's isDecided answers: are these votes the certificate of a block? · Proved here: plain facts on certificates: the power of different senders, added up by messages or by ids; a certificate's height. -/
import Derived.Test.YtcfjhbcpjpgodaaGreatDoorJ11
import Derived.Test.YtcfjhbcpjpgodaaGreatDoorJ14
import Derived.Test.YtcfjhbcpjpgodaaGreatDoorJ43
import Derived.Test.YtcfjhbcpjpgodaaGreatDoorJ23
import Derived.BigQuiet
namespace Go.Proofs.YtcfjhbcpjpgodaaGreatDoor
open Go.RowKit

section
variable {P : Program}
/-- A row is stored over a block that has just been made (in a region that draws its order). -/
theorem wp_store_new {op : Oper} {a : Act} {K : Act → World → Prop} {Q : Exit → Act → World → Prop} (ty : TypeId) (p y : Operand) (ho : op.op = .store ty p y)
    (w1 : World) (D : Array Value) (hp : a.eval p = .pointer (some ⟨w1.heap.size, 0, none⟩)) (hy : a.eval y = .agg D) (t : TypeId) (C : Array Value) (hC : C.size = D.size) (h1 : ∀ v ∈ D.toList, v.oneCell' = true) (hi : (P.info? ty).map (·.size) = some D.size)
    (h : ∀ w', w'.heap[w1.heap.size]? = some (.cells D t (0, 0)) → Below w1.heap.size w1 w' → w'.heap.size = w1.heap.size + 1 → K (a.put op.dst undef) w') : op.wp P a (w1.alloc (.cells C t)) K Q := by
  have hg : (w1.alloc (.cells C t)).heap[w1.heap.size]? = some (.cells C t (0, 0)) := heap_alloc_new w1 _
  have ho2 := only_setRow (w1.alloc (.cells C t)) w1.heap.size D
  unfold Oper.wp execOp
  simp only [ho, hp, hy, Instr.storeAt, Instr.sureAddr, Sem.run_bind, Sem.run_pure, Result.andThen_ok, run_storeVar_rowG (w1.alloc (.cells C t)) w1.heap.size t ty C D hg hC h1 hi]
  exact h _ (setRow_heap _ _ C _ t (0, 0) hg) (((Below.refl _ w1).alloc (Nat.le_refl _) _).trans (ho2.below (Nat.le_refl _))) (by rw [ho2.size]; simp)
end

theorem Tryz.guardMsgC : Tryz.prog.eqGuardType Tryz.prog.depth 57 = false := by kernel_rfl
theorem wpList_neq_msgC {ops : Array Oper} {rest : List Oper} {op : Oper} {a : Act} {w : World} {Q : Exit → Act → World → Prop} (hgd : op.guard = none) (x y : Operand) (t2 : TypeId) (ho : op.op = .binOp .neq 57 x y t2) (m m' : MsgV)
    (hx : a.eval x = .agg m.cells) (hy : a.eval y = .agg m'.cells) (h : wpList Tryz.prog ops Q rest (a.put op.dst (.bool (!msgB m m'))) w) : wpList Tryz.prog ops Q (op :: rest) a w :=
  wpList_plain hgd fun _ hK => by
    have h1 := Tryz.neqMsg m m' w
    have h2 := fun o => run_eqGuard_agg (P := Tryz.prog) w o 57 x y m.cells m'.cells Tryz.guardMsgC
    unfold Oper.wp execOp
    simp only [ho, hx, hy, h1, h2, Sem.run_bind, Sem.run_pure, Result.andThen_ok]
    exact hK _ _ h
theorem row_rangeC {w : World} {g : Nat} {C : Array Value} {t : TypeId} (h : w.heap[g]? = some (.cells C t (0, 0))) : w.rangeAt g 0 C.toList := fun j v hv => by
  rw [cell_of_row w g (0 + j) _ _ _ h, Nat.zero_add, ← hv]
  simp

/-- A client in block cb: its ring, its registry, its height. -/
def clientA (rb : Nat) (x : Nat → Int) (h : Int) : Array Value := (.pointer (some ⟨rb, 0, none⟩) :: (regL x ++ [.int .i64 h])).toArray
def ClientAt (w : World) (cb rb : Nat) (x : Nat → Int) (h : Int) : Prop := w.heap[cb]? = some (.cells (clientA rb x h) 170 (0, 0))
theorem regL_length (x : Nat → Int) : (regL x).length = 34 := by simp [regL]
theorem clientA_size (rb : Nat) (x : Nat → Int) (h : Int) : (clientA rb x h).size = 36 := by simp [clientA, regL_length]
theorem ClientAt.height {w : World} {cb rb : Nat} {x : Nat → Int} {h : Int} (hc : ClientAt w cb rb x h) : w.cell? ⟨cb, 35, none⟩ = some (.int .i64 h) := by
  rw [cell_of_row w cb 35 _ _ _ hc]
  simp [clientA, regL]
theorem ClientAt.ring {w : World} {cb rb : Nat} {x : Nat → Int} {h : Int} (hc : ClientAt w cb rb x h) : w.cell? ⟨cb, 0, none⟩ = some (.pointer (some ⟨rb, 0, none⟩)) := by
  rw [cell_of_row w cb 0 _ _ _ hc]
  simp [clientA]
theorem ClientAt.reg {w : World} {cb rb : Nat} {x : Nat → Int} {h : Int} (hc : ClientAt w cb rb x h) : w.rangeAt cb 1 (regL x) := fun j v hv => by
  have hj : j < 34 := by have := (List.getElem?_eq_some_iff.1 hv).1; simpa [regL] using this
  rw [cell_of_row w cb (1 + j) _ _ _ hc, ← hv]
  unfold clientA
  rw [List.getElem?_toArray, Nat.add_comm 1 j, List.getElem?_cons_succ, List.getElem?_append_left (by rw [regL_length]; exact hj)]
theorem ClientAt.keep {w w' : World} {cb rb : Nat} {x : Nat → Int} {h : Int} (hc : ClientAt w cb rb x h) (hb : Below w.heap.size w w') : ClientAt w' cb rb x h := by
  unfold ClientAt at hc ⊢
  exact blk hc hb

/-- The vote that a certificate wants of a sender. -/
def wantM (h r : Int) (block : ByteArray) (f : Int) : MsgV := ⟨3, h, r, f, 0, false, block⟩
/-- The first k votes are as wanted, of different senders; b: who they are. -/
structure CertTo (ms : Nat → MsgV) (h : Int) (block : ByteArray) (k : Nat) (b : Nat → Bool) : Prop where
  want : ∀ i, i < k → ms i = wantM h (ms 0).r block (ms i).f
  apart : ∀ i j, i < j → j < k → (ms i).f ≠ (ms j).f
  who : ∀ id : Nat, id < 8 → (b id = true ↔ ∃ i, i < k ∧ (ms i).f = (id : Int))
theorem CertTo.step {ms : Nat → MsgV} {h : Int} {block : ByteArray} {k : Nat} {b : Nat → Bool} {f : Nat} (hc : CertTo ms h block k b) (hw : ms k = wantM h (ms 0).r block (ms k).f) (hf : (ms k).f = (f : Int)) (hf8 : f < 8) (hb : b f = false) : CertTo ms h block (k + 1) (yesB b f) where
  want := fun i hi => by
    by_cases e : i = k
    · rw [e]; exact hw
    · exact hc.want i (by omega)
  apart := fun i j hij hj => by
    by_cases e : j = k
    · subst e
      intro he
      have := (hc.who f hf8).2 ⟨i, hij, by rw [he, hf]⟩
      rw [hb] at this
      cases this
    · exact hc.apart i j hij (by omega)
  who := fun id hid => by
    unfold yesB
    split
    · rename_i e
      subst e
      exact ⟨fun _ => ⟨k, by omega, hf⟩, fun _ => rfl⟩
    · rename_i e
      rw [hc.who id hid]
      constructor
      · rintro ⟨i, hi, h1⟩; exact ⟨i, by omega, h1⟩
      · rintro ⟨i, hi, h1⟩
        refine ⟨i, ?_, h1⟩
        have : i ≠ k := fun e2 => by subst e2; rw [hf] at h1; omega
        omega
/-- Are these votes a certificate? -/
def CertOk (x : Nat → Int) (h : Int) (block : ByteArray) (ms : Nat → MsgV) (m : Nat) : Prop := ∃ b, CertTo ms h block m b ∧ moreB 2 x b = true
theorem CertTo.less {ms : Nat → MsgV} {h : Int} {block : ByteArray} {k m : Nat} {b b' : Nat → Bool} {f : Nat} (hc : CertTo ms h block k b) (hm : CertTo ms h block m b') (hk : k < m) (hf : (ms k).f = (f : Int)) (hf8 : f < 8) : b f = false := by
  cases e : b f with
  | false => rfl
  | true =>
    obtain ⟨i, hi, h1⟩ := (hc.who f hf8).1 e
    exact absurd (h1.trans hf.symm) (hm.apart i k hi hk)
theorem powB_congr (x : Nat → Int) {b b' : Nat → Bool} (k : Nat) (h : ∀ i, i < k → b i = b' i) : powB x b k = powB x b' k := by
  induction k with
  | zero => rfl
  | succ k ih => simp only [powB]; rw [ih (fun i hi => h i (by omega)), h k (by omega)]
theorem CertTo.same {ms : Nat → MsgV} {h : Int} {block : ByteArray} {k : Nat} {b b' : Nat → Bool} (hc : CertTo ms h block k b) (hm : CertTo ms h block k b') (t : Int) (x : Nat → Int) : moreB t x b = moreB t x b' := by
  unfold moreB
  have e : powB x b 8 = powB x b' 8 := powB_congr x 8 (fun i hi => by
    have h1 := hc.who i hi
    have h2 := hm.who i hi
    rw [← h2] at h1
    cases ha : b i <;> cases hb : b' i <;> simp_all)
  rw [e]

set_option maxRecDepth 100000 in
set_option maxHeartbeats 12800000 in
theorem isDecided_any (cb rb : Nat) (x : Nat → Int) (h : Int) (block : ByteArray) (ms : Nat → MsgV) (p : Option Addr) (m cap : Nat) (w : World) (hx : Dom x) (hc : ClientAt w cb rb x h) (hms : MsgsAt w w.heap.size p m ms) (hf : ∀ i, i < m → 0 ≤ (ms i).f ∧ (ms i).f < 8) (hm : m ≤ 1000000000) :
    Calls Tryz.prog 97 #[.pointer (some ⟨cb, 0, none⟩), .string block, .slice p m cap] w fun e w' => ∃ r : Bool, e = .returned (.bool r) ∧ (r = true ↔ CertOk x h block ms m) ∧ Below w.heap.size w w' := by
  have HX := hide hx
  have HC := hide hc
  have HMS := hide hms
  have HF := hide hf
  have HM := hide hm
  have hmx : (m : Int) ≤ 9223372036854775807 := by omega
  have hcbl : cb < w.heap.size := row_lt0 hc
  clear hx hc hms hf hm
  go_enter Tryz.func97, Tryz.ntmps97
  go_wp2
  go_loopw [9, 10, 13] (fun _ _ i wr => ∃ (k : Nat) (b : Nat → Bool), k ≤ m ∧ i = .int .i64 k ∧ CertTo ms h block k b ∧ wr.heap[w.heap.size]? = some (.cells (boolA b) 190 (0, 0)) ∧ Below w.heap.size w wr) (fun _ _ i _ => m - (intOf i).toNat)
  case atStart => exact ⟨0, fun _ => false, Nat.zero_le _, rfl, ⟨fun i hi => by omega, fun i j hi hj => by omega, fun id _ => ⟨fun h => (by cases h), fun ⟨i, hi, _⟩ => (by omega)⟩⟩, heap_alloc_new w _, (Below.refl _ w).alloc (Nat.le_refl _) _⟩
  case round =>
    obtain ⟨k, b, hk, rfl, hct, hbl, hb⟩ := hrel
    have HCT := hide hct
    have HBL := hide hbl
    have HB := hide hb
    have hsb : w.heap.size < wr.heap.size := row_lt0 hbl
    have HCR := hide (HC.out.keep hb)
    clear hct hbl hb
    by_cases hkn : k = m
    · subst hkn
      go_wp2_with fail
      refine wp_region_held_drew (S := fun W => ClientAt W cb rb x h ∧ W.heap[w.heap.size]? = some (.cells (boolA b) 190 (0, 0)) ∧ Below w.heap.size w W) (by kernel_rfl) ⟨HCR.out, HBL.out, HB.out.drew⟩ (fun hHeld => ?_)
      refine takeD 0 (some 42) (.pointer (some ⟨cb, 0, none⟩)) rfl rfl (by kernel_rfl) (by kernel_rfl) (by kernel_rfl) (fun _ _ _ h => h) (Or.inl ⟨by rfl, ?_⟩) hHeld ?_
      · intro w hSw
        go_simp
      simp only [Act.put, List.setIfInBounds_toArray, List.set_cons_zero, List.set_cons_succ]
      refine takeD 1 (some 43) (.pointer (some ⟨cb, 0, none⟩)) rfl rfl (by kernel_rfl) (by kernel_rfl) (by kernel_rfl) (fun _ _ _ h => h) (Or.inl ⟨by rfl, ?_⟩) hHeld ?_
      · intro w hSw
        go_simp
      simp only [Act.put, List.setIfInBounds_toArray, List.set_cons_zero, List.set_cons_succ]
      refine takeD 2 (some 44) (.pointer (some ⟨cb, 1, none⟩)) rfl rfl (by kernel_rfl) (by kernel_rfl) (by kernel_rfl) (fun _ _ _ h => h) (Or.inl ⟨by rfl, ?_⟩) hHeld ?_
      · intro w hSw
        go_simp
      simp only [Act.put, List.setIfInBounds_toArray, List.set_cons_zero, List.set_cons_succ]
      refine takeD 3 (some 45) (.agg (regA x)) rfl rfl (by kernel_rfl) (by kernel_rfl) (by kernel_rfl) (fun _ _ _ h => h) (yieldsIf_load_mid (by rfl) 116 _ rfl cb 1 rfl (regL x) _ (fun w h => h.1.reg) Tryz.underlying116 rfl (by rw [Tryz.sizeRegistry]; simp [regL])) hHeld ?_
      simp only [Act.put, List.setIfInBounds_toArray, List.set_cons_zero, List.set_cons_succ]
      refine takeD 4 (some 46) (.agg (boolA b)) rfl rfl (by kernel_rfl) (by kernel_rfl) (by kernel_rfl) (fun _ _ _ h => h) (yieldsIf_load_mid (by rfl) 190 _ rfl w.heap.size 0 rfl (boolA b).toList _ (fun w h => row_rangeC h.2.1) Tryz.underlying190 rfl Tryz.sizeBools) hHeld ?_
      simp only [Act.put, List.setIfInBounds_toArray, List.set_cons_zero, List.set_cons_succ]
      refine wpAnyH_ready (rs := [5]) (by kernel_rfl) (by simp) ?_
      refine AllReadyH.cons rfl (fun K hK => ?_) AllReadyH.nil
      go_simp
      go_wp2_with ((go_at_call 137; refine (moreThan_any 2 x b _ HX.out (by decide) (by decide)).mono ?_; rintro e w1 ⟨rfl, hb1⟩))
      refine hK.out _ _ ⟨hHeld.1.keep hb1, blk hHeld.2.1 hb1, hHeld.2.2.trans (hb1.mono hHeld.2.2.size)⟩ (fun hHeld => ?_)
      clear hK K hb1
      refine wpAnyH_ready (rs := [6]) (by kernel_rfl) (by simp) ?_
      refine AllReadyH.cons rfl (fun K hK => ?_) AllReadyH.nil
      go_simp
      refine hK.out _ _ hHeld (fun hHeld => ?_)
      clear hK K
      refine wpAnyH_done (by kernel_rfl) ?_ _
      go_wp2
      go_ret
      exact ⟨moreB 2 x b, rfl, ⟨fun h => ⟨b, HCT.out, h⟩, fun ⟨b2, h1, h2⟩ => (by rw [HCT.out.same h1]; exact h2)⟩, hHeld.2.2⟩
    · have hlt : k < m := by omega
      have hlt2 : (k : Int) < m := by omega
      have HK := hide hlt
      have hkx : k ≤ 1000000000 := by have := HM.out; omega
      have h0m : (0 : Int) < m := by omega
      have h0n : 0 < m := by omega
      obtain ⟨pb, po, rfl, hpb, hrg⟩ := HMS.out.below HB.out k hlt
      obtain ⟨pb', po', e0, _, hrg0⟩ := HMS.out.below HB.out 0 (by omega)
      cases e0
      obtain ⟨hf0, hf8⟩ := HF.out k hlt
      have HRG := hide hrg
      obtain ⟨r0, hr0⟩ : ∃ r, r = (ms 0).r := ⟨_, rfl⟩
      have hc0 : wr.cell? ⟨pb, po + 2, none⟩ = some (.int .i64 r0) := by rw [hr0]; have := hrg0 2 _ rfl; simpa using this
      have HR0 := hide hr0
      have hch : wr.cell? ⟨cb, 35, none⟩ = some (.int .i64 h) := HCR.out.height
      have hpbr : pb < wr.heap.size := Nat.lt_of_lt_of_le hpb HB.out.size
      have hcbr : cb < wr.heap.size := Nat.lt_of_lt_of_le hcbl HB.out.size
      clear hrg hrg0 hkn hr0
      obtain ⟨mm, hmm⟩ : ∃ y, y = ms k := ⟨_, rfl⟩
      rw [← hmm] at hf0 hf8 HRG
      obtain ⟨f, hfe⟩ : ∃ f : Nat, mm.f = (f : Int) := ⟨mm.f.toNat, by omega⟩
      obtain ⟨K, H, R, Fm, V, nl, s⟩ := mm
      have hfm : Fm = (f : Int) := hfe
      subst hfm
      have HMM := hide hmm
      have hfi : (f : Int) < 8 := by simp only at hf8; exact hf8
      clear hmm hfe hf0 hf8 hlt
      have hbf : wr.cell? ⟨w.heap.size, f, none⟩ = some (.bool (b f)) := (cell_of_row wr _ f _ _ _ HBL.out).trans (boolA_get b f (by omega))
      have hbz : wr.frozen? ⟨w.heap.size, f, none⟩ = false := frozen_row HBL.out f
      go_wp2_with (first | (refine wpList_load_mid rfl 57 _ rfl pb (po + k * 7) rfl _ _ HRG.out Tryz.underlying57 rfl Tryz.sizeMsg ?_) | (refine wpList_store_new rfl 57 _ _ rfl wr #[.int .i64 K, .int .i64 H, .int .i64 R, .int .i64 (f : Int), .int .i64 V, .bool nl, .string s] rfl rfl 57 _ rfl (by simp [Value.oneCell']) Tryz.sizeMsg ?_; intro w2 hq2 hb2 hz2; have q3 : w2.cell? ⟨wr.heap.size, 3, none⟩ = some (.int .i64 (f : Int)) := cell_of_row w2 _ 3 _ _ _ hq2; have HQ2 := hide hq2; have HB2 := hide hb2; have HZ2 := hide hz2; clear hq2 hz2 hb2) | fail)
      have c1 : w2.cell? ⟨cb, 35, none⟩ = some (.int .i64 h) := (HB2.out.cell (p := ⟨cb, 35, none⟩) (by exact hcbr)).trans hch
      have c2 : w2.cell? ⟨pb, po + 2, none⟩ = some (.int .i64 r0) := (HB2.out.cell (p := ⟨pb, po + 2, none⟩) (by exact hpbr)).trans hc0
      clear hch hc0 hbf hbz
      have hz3 : wr.heap.size < w2.heap.size := by have := HZ2.out; omega
      have hcb2 : cb < w2.heap.size := by omega
      have hpb2 : pb < w2.heap.size := by omega
      refine wp_region_held_drew (S := fun W => W.cell? ⟨cb, 35, none⟩ = some (.int .i64 h) ∧ W.cell? ⟨pb, po + 2, none⟩ = some (.int .i64 r0) ∧ W.cell? ⟨wr.heap.size, 3, none⟩ = some (.int .i64 (f : Int))) (by kernel_rfl) ⟨c1, c2, q3⟩ (fun hHeld => ?_)
      refine takeD 0 (some 17) (.pointer (some ⟨cb, 0, none⟩)) rfl rfl (by kernel_rfl) (by kernel_rfl) (by kernel_rfl) (fun _ _ _ h => h) (Or.inl ⟨by rfl, ?_⟩) hHeld ?_
      · intro w hSw
        go_simp
      simp only [Act.put, List.setIfInBounds_toArray, List.set_cons_zero, List.set_cons_succ]
      refine takeD 1 (some 18) (.pointer (some ⟨cb, 0, none⟩)) rfl rfl (by kernel_rfl) (by kernel_rfl) (by kernel_rfl) (fun _ _ _ h => h) (Or.inl ⟨by rfl, ?_⟩) hHeld ?_
      · intro w hSw
        go_simp
      simp only [Act.put, List.setIfInBounds_toArray, List.set_cons_zero, List.set_cons_succ]
      refine takeD 2 (some 19) (.pointer (some ⟨cb, 35, none⟩)) rfl rfl (by kernel_rfl) (by kernel_rfl) (by kernel_rfl) (fun _ _ _ h => h) (Or.inl ⟨by rfl, ?_⟩) hHeld ?_
      · intro w hSw
        go_simp
      simp only [Act.put, List.setIfInBounds_toArray, List.set_cons_zero, List.set_cons_succ]
      refine takeD 3 (some 20) (.int .i64 h) rfl rfl (by kernel_rfl) (by kernel_rfl) (by kernel_rfl) (fun _ _ _ h => h) (Or.inl ⟨by rfl, ?_⟩) hHeld ?_
      · intro w hSw
        have hcx := hSw.1
        go_simp
      simp only [Act.put, List.setIfInBounds_toArray, List.set_cons_zero, List.set_cons_succ]
      refine takeD 4 (some 21) (.slice (some ⟨pb, po, none⟩) m cap) rfl rfl (by kernel_rfl) (by kernel_rfl) (by kernel_rfl) (fun _ _ _ h => h) (Or.inl ⟨by rfl, ?_⟩) hHeld ?_
      · intro w hSw
        go_simp
      simp only [Act.put, List.setIfInBounds_toArray, List.set_cons_zero, List.set_cons_succ]
      refine takeD 5 (some 22) (.pointer (some ⟨pb, po, none⟩)) rfl rfl (by kernel_rfl) (by kernel_rfl) (by kernel_rfl) (fun _ _ _ h => h) (Or.inl ⟨by rfl, ?_⟩) hHeld ?_
      · intro w hSw
        go_simp
      simp only [Act.put, List.setIfInBounds_toArray, List.set_cons_zero, List.set_cons_succ]
      refine takeD 6 (some 23) (.pointer (some ⟨pb, po + 2, none⟩)) rfl rfl (by kernel_rfl) (by kernel_rfl) (by kernel_rfl) (fun _ _ _ h => h) (Or.inl ⟨by rfl, ?_⟩) hHeld ?_
      · intro w hSw
        go_simp
      simp only [Act.put, List.setIfInBounds_toArray, List.set_cons_zero, List.set_cons_succ]
      refine takeD 7 (some 24) (.int .i64 r0) rfl rfl (by kernel_rfl) (by kernel_rfl) (by kernel_rfl) (fun _ _ _ h => h) (Or.inl ⟨by rfl, ?_⟩) hHeld ?_
      · intro w hSw
        have hcx := hSw.2.1
        go_simp
      simp only [Act.put, List.setIfInBounds_toArray, List.set_cons_zero, List.set_cons_succ]
      refine takeD 8 (some 25) (.pointer (some ⟨wr.heap.size, 3, none⟩)) rfl rfl (by kernel_rfl) (by kernel_rfl) (by kernel_rfl) (fun _ _ _ h => h) (Or.inl ⟨by rfl, ?_⟩) hHeld ?_
      · intro w hSw
        go_simp
      simp only [Act.put, List.setIfInBounds_toArray, List.set_cons_zero, List.set_cons_succ]
      refine takeD 9 (some 26) (.int .i64 (f : Int)) rfl rfl (by kernel_rfl) (by kernel_rfl) (by kernel_rfl) (fun _ _ _ h => h) (Or.inl ⟨by rfl, ?_⟩) hHeld ?_
      · intro w hSw
        have hcx := hSw.2.2
        go_simp
      simp only [Act.put, List.setIfInBounds_toArray, List.set_cons_zero, List.set_cons_succ]
      refine takeD 10 (some 27) (.string block) rfl rfl (by kernel_rfl) (by kernel_rfl) (by kernel_rfl) (fun _ _ _ h => h) (Or.inl ⟨by rfl, ?_⟩) hHeld ?_
      · intro w hSw
        go_simp
      simp only [Act.put, List.setIfInBounds_toArray, List.set_cons_zero, List.set_cons_succ]
      refine takeD 11 (some 28) (.agg #[.int .i64 3, .int .i64 h, .int .i64 r0, .int .i64 (f : Int), .int .i64 0, .bool false, .string block]) rfl rfl (by kernel_rfl) (by kernel_rfl) (by kernel_rfl) (fun _ _ _ h => h) (Or.inl ⟨by rfl, ?_⟩) hHeld ?_
      · intro w hSw
        go_simp
      simp only [Act.put, List.setIfInBounds_toArray, List.set_cons_zero, List.set_cons_succ]
      refine wpAnyH_ready (rs := [12]) (by kernel_rfl) (by simp) ?_
      refine AllReadyH.cons rfl (fun K hK => ?_) AllReadyH.nil
      go_simp
      refine hK.out _ _ ⟨(World.cell?_of_block (w := w2) (a := ⟨cb, 35, none⟩) (Below.heap_alloc w2 _ cb hcb2)).trans c1, (World.cell?_of_block (w := w2) (a := ⟨pb, po + 2, none⟩) (Below.heap_alloc w2 _ pb hpb2)).trans c2, (World.cell?_of_block (w := w2) (a := ⟨wr.heap.size, 3, none⟩) (Below.heap_alloc w2 _ wr.heap.size hz3)).trans q3⟩ (fun hHeld => ?_)
      clear hK K
      refine wpAnyH_ready (rs := [13]) (by kernel_rfl) (by simp) ?_
      refine AllReadyH.cons rfl (fun K hK => ?_) AllReadyH.nil
      rw [if_pos (by rfl)]
      refine wp_store_new 57 _ _ rfl w2.drew #[.int .i64 3, .int .i64 h, .int .i64 r0, .int .i64 (f : Int), .int .i64 0, .bool false, .string block] rfl rfl 57 _ rfl (by simp [Value.oneCell']) Tryz.sizeMsg ?_
      intro w4 hq4 hb4' hz4
      have hb4 : Below w2.heap.size w2 w4 := ((Below.refl w2.heap.size w2).drew).trans hb4'
      refine hK.out _ _ ⟨(hb4.cell (p := ⟨cb, 35, none⟩) (by exact hcb2)).trans c1, (hb4.cell (p := ⟨pb, po + 2, none⟩) (by exact hpb2)).trans c2, (hb4.cell (p := ⟨wr.heap.size, 3, none⟩) (by exact hz3)).trans q3⟩ (fun hHeld => ?_)
      clear hK K
      refine wpAnyH_done (by kernel_rfl) ?_ _
      have HQ4 : Hid (w4.heap[w2.heap.size]? = some (.cells #[.int .i64 3, .int .i64 h, .int .i64 r0, .int .i64 (f : Int), .int .i64 0, .bool false, .string block] 57 (0, 0))) := hq4
      have HQ24 := hide (blk HQ2.out hb4)
      have HBL4 := hide (blk (blk HBL.out HB2.out) hb4)
      have HB4 : Hid (Below w.heap.size w w4) := HB.out.trans ((HB2.out.mono HB.out.size).trans (hb4.mono (by omega)))
      have q43 : w4.cell? ⟨wr.heap.size, 3, none⟩ = some (.int .i64 (f : Int)) := hHeld.2.2
      have q44 : w4.cell? ⟨w.heap.size, f, none⟩ = some (.bool (b f)) := (cell_of_row w4 _ f _ _ _ HBL4.out).trans (boolA_get b f (by omega))
      have q45 : w4.frozen? ⟨w.heap.size, f, none⟩ = false := frozen_row HBL4.out f
      clear hHeld hq4 hb4' hz4 hb4 c1 c2 q3 hz3 hcb2 hpb2 HBL HB HB2 HQ2 HZ2 HCR
      cases hmb : msgB ⟨K, H, R, (f : Int), V, nl, s⟩ (wantM h r0 block (f : Int)) with
      | false =>
        have HNO : Hid (¬ CertOk x h block ms m) := by
          rintro ⟨b', hct', _⟩
          have e := hct'.want k HK.out
          rw [← HR0.out, ← HMM.out] at e
          rw [(msgB_iff _ _).2 e] at hmb
          cases hmb
        have HMB := hide hmb
        clear hmb
        go_wp2_with (first | (refine wpList_load_row rfl 57 _ rfl wr.heap.size rfl 57 #[.int .i64 K, .int .i64 H, .int .i64 R, .int .i64 (f : Int), .int .i64 V, .bool nl, .string s] (0, 0) _ HQ24.out Tryz.underlying57 rfl Tryz.sizeMsg ?_) | (refine wpList_load_row rfl 57 _ rfl w2.heap.size rfl 57 #[.int .i64 3, .int .i64 h, .int .i64 r0, .int .i64 (f : Int), .int .i64 0, .bool false, .string block] (0, 0) _ HQ4.out Tryz.underlying57 rfl Tryz.sizeMsg ?_) | (refine wpList_neq_msgC rfl _ _ _ rfl ⟨K, H, R, (f : Int), V, nl, s⟩ (wantM h r0 block (f : Int)) rfl rfl ?_; rw [HMB.out]) | go_in)
        go_ret
        exact ⟨false, rfl, ⟨fun h => (by cases h), fun h => absurd h HNO.out⟩, HB4.out⟩
      | true =>
        have HME := hide ((msgB_iff _ _).1 hmb)
        have HMB := hide hmb
        clear hmb
        cases hbf : b f with
        | true =>
          have HNO : Hid (¬ CertOk x h block ms m) := by
            rintro ⟨b', hct', _⟩
            have e := HCT.out.less hct' HK.out (f := f) (by rw [← HMM.out]) (by omega)
            rw [hbf] at e
            cases e
          rw [hbf] at q44
          clear hbf
          go_wp2_with (first | (refine wpList_load_row rfl 57 _ rfl wr.heap.size rfl 57 #[.int .i64 K, .int .i64 H, .int .i64 R, .int .i64 (f : Int), .int .i64 V, .bool nl, .string s] (0, 0) _ HQ24.out Tryz.underlying57 rfl Tryz.sizeMsg ?_) | (refine wpList_load_row rfl 57 _ rfl w2.heap.size rfl 57 #[.int .i64 3, .int .i64 h, .int .i64 r0, .int .i64 (f : Int), .int .i64 0, .bool false, .string block] (0, 0) _ HQ4.out Tryz.underlying57 rfl Tryz.sizeMsg ?_) | (refine wpList_neq_msgC rfl _ _ _ rfl ⟨K, H, R, (f : Int), V, nl, s⟩ (wantM h r0 block (f : Int)) rfl rfl ?_; rw [HMB.out]) | go_in)
          go_ret
          exact ⟨false, rfl, ⟨fun h => (by cases h), fun h => absurd h HNO.out⟩, HB4.out⟩
        | false =>
          have HBF := hide hbf
          rw [hbf] at q44
          clear hbf
          go_wp2_with (first | (refine wpList_load_row rfl 57 _ rfl wr.heap.size rfl 57 #[.int .i64 K, .int .i64 H, .int .i64 R, .int .i64 (f : Int), .int .i64 V, .bool nl, .string s] (0, 0) _ HQ24.out Tryz.underlying57 rfl Tryz.sizeMsg ?_) | (refine wpList_load_row rfl 57 _ rfl w2.heap.size rfl 57 #[.int .i64 3, .int .i64 h, .int .i64 r0, .int .i64 (f : Int), .int .i64 0, .bool false, .string block] (0, 0) _ HQ4.out Tryz.underlying57 rfl Tryz.sizeMsg ?_) | (refine wpList_neq_msgC rfl _ _ _ rfl ⟨K, H, R, (f : Int), V, nl, s⟩ (wantM h r0 block (f : Int)) rfl rfl ?_; rw [HMB.out]) | go_in)
          go_roundw
          case rel =>
            refine ⟨k + 1, yesB b f, HK.out, by go_num, HCT.out.step ?_ (by rw [← HMM.out]) (by omega) HBF.out, ?_, HB4.out.setCell (by exact Nat.le_refl _) _⟩
            · rw [← HMM.out, ← HR0.out]; exact HME.out
            · rw [← boolA_set b f (by omega)]
              have h1 := HBL4.out
              simp [World.setCell, Array.getElem?_modify, h1]
          case measure => have := HK.out; simp [intOf]; omega

end Go.Proofs.YtcfjhbcpjpgodaaGreatDoor
namespace Go.Proofs.YtcfjhbcpjpgodaaGreatDoor
open Go.RowKit

/-- The power of the senders of the first k messages, each as often as it stands there. -/
def powS (x : Nat → Int) (ms : Nat → MsgV) : Nat → Int
  | 0 => 0
  | k + 1 => powS x ms k + x (ms k).f.toNat

theorem powB_yes (x : Nat → Int) (b : Nat → Bool) (f : Nat) (hb : b f = false) : ∀ k, powB x (yesB b f) k = powB x b k + if f < k then x f else 0
  | 0 => by simp [powB]
  | k + 1 => by
    have ih := powB_yes x b f hb k
    simp only [powB]
    rw [ih]
    by_cases e : k = f
    · subst e
      have h1 : yesB b k k = true := if_pos rfl
      rw [h1, hb]
      simp
    · have h1 : yesB b f k = b k := if_neg e
      rw [h1]
      by_cases h2 : f < k
      · have h3 : f < k + 1 := by omega
        simp only [h2, h3, if_true]
        omega
      · have h3 : ¬ f < k + 1 := by omega
        simp only [h2, h3, if_false]
        omega

theorem CertTo.unique {ms : Nat → MsgV} {h : Int} {block : ByteArray} {k : Nat} {b b' : Nat → Bool} (hc : CertTo ms h block k b) (hm : CertTo ms h block k b') : ∀ i, i < 8 → b i = b' i := fun i hi => by
  have h1 := hc.who i hi
  have h2 := hm.who i hi
  rw [← h2] at h1
  cases ha : b i <;> cases hb : b' i <;> simp_all

theorem CertTo.power {ms : Nat → MsgV} {h : Int} {block : ByteArray} (x : Nat → Int) : ∀ {k : Nat} {b : Nat → Bool}, CertTo ms h block k b → (∀ i, i < k → 0 ≤ (ms i).f ∧ (ms i).f < 8) → powS x ms k = powB x b 8
  | 0, b, hc, _ => by
    have e : powB x b 8 = powB x (fun _ => false) 8 := powB_congr x 8 (fun i hi => by
      cases hb : b i with
      | false => rfl
      | true => obtain ⟨j, hj, _⟩ := (hc.who i hi).1 hb; omega)
    rw [e]
    simp [powS, powB]
  | k + 1, b, hc, hf => by
    obtain ⟨f, hfe⟩ : ∃ f : Nat, (ms k).f = (f : Int) := ⟨(ms k).f.toNat, by have := hf k (by omega); omega⟩
    have hf8 : f < 8 := by have := hf k (by omega); omega
    have hk : CertTo ms h block k (fun i => if i = f then false else b i) := by
      refine ⟨fun i hi => hc.want i (by omega), fun i j hij hj => hc.apart i j hij (by omega), fun id hid => ?_⟩
      by_cases e : id = f
      · subst e
        rw [if_pos rfl]
        constructor
        · intro h; cases h
        · rintro ⟨i, hi, h1⟩
          exact absurd (h1.trans hfe.symm) (hc.apart i k hi (by omega))
      · rw [if_neg e, hc.who id hid]
        constructor
        · rintro ⟨i, hi, h1⟩
          refine ⟨i, ?_, h1⟩
          have : i ≠ k := fun e2 => by subst e2; rw [hfe] at h1; omega
          omega
        · rintro ⟨i, hi, h1⟩; exact ⟨i, by omega, h1⟩
    have e1 : powB x b 8 = powB x (yesB (fun i => if i = f then false else b i) f) 8 := powB_congr x 8 (fun i hi => by
      unfold yesB
      split
      · rename_i e
        rw [e]
        exact (hc.who f hf8).2 ⟨k, by omega, hfe⟩
      · rename_i e
        exact (if_neg e).symm)
    have ih := CertTo.power x hk (fun i hi => hf i (by omega))
    rw [e1, powB_yes x _ f (if_pos rfl), if_pos hf8, ← ih]
    show powS x ms k + x (ms k).f.toNat = _
    rw [hfe, Int.toNat_natCast]

end Go.Proofs.YtcfjhbcpjpgodaaGreatDoor
