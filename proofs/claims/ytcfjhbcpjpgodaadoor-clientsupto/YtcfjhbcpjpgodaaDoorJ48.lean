/- Proved here: the law's pick tells a number below n. · Proved here: a list of texts cut in two: l[:r] and l[r:]. -/
import Derived.Test.YtcfjhbcpjpgodaaDoorBase
namespace Go.Proofs.YtcfjhbcpjpgodaaDoor
open Go.RowKit

theorem pick_any (c : Int) (n : Nat) (w : World) (h1 : -9223372036854775808 ≤ c) (h2 : c ≤ 9223372036854775807) (hn : 1 ≤ n) (hn2 : n ≤ 1000000000) :
    Calls Tryd.prog 29 #[.int .i64 c, .int .i64 (n : Int)] w fun e w' => (∃ r : Nat, r < n ∧ e = .returned (.int .i64 (r : Int))) ∧ w' = w := by
  have hz : ((n : Int) == 0) = false := by simp; omega
  have hz2 : ¬ (n : Int) = 0 := by omega
  by_cases hc : c < 0
  · obtain ⟨d, hd⟩ : ∃ d : Int, d = -(c + 1) := ⟨_, rfl⟩
    have hd0 : 0 ≤ d := by omega
    have hd1 : d ≤ 9223372036854775807 := by omega
    obtain ⟨r, hr⟩ : ∃ r : Nat, (r : Int) = d.tmod n := ⟨(d.tmod n).toNat, by rw [Int.toNat_of_nonneg (Int.tmod_nonneg _ hd0)]⟩
    have hrn : r < n := by have := Int.tmod_lt_of_pos d (show (0 : Int) < n by omega); omega
    have HR := hide hr
    have HD := hide hd
    have HN := hide hrn
    clear hr hrn
    go_enter Tryd.func29, Tryd.ntmps29
    go_wp2
    go_ret
    refine ⟨⟨r, HN.out, ?_⟩, rfl⟩
    show Ending.returned (Value.int .i64 (-(c + 1).tmod (n : Int))) = _
    rw [HR.out, HD.out, Int.neg_tmod]

  · obtain ⟨r, hr⟩ : ∃ r : Nat, (r : Int) = c.tmod n := ⟨(c.tmod n).toNat, by rw [Int.toNat_of_nonneg (Int.tmod_nonneg _ (by omega))]⟩
    have hrn : r < n := by have := Int.tmod_lt_of_pos c (show (0 : Int) < n by omega); omega
    have HR := hide hr
    have HN := hide hrn
    clear hr hrn
    go_enter Tryd.func29, Tryd.ntmps29
    go_wp2
    go_ret
    refine ⟨⟨r, HN.out, ?_⟩, rfl⟩
    show Ending.returned (Value.int .i64 (c % (n : Int))) = _
    rw [HR.out, Int.tmod_eq_emod_of_nonneg (by omega)]

end Go.Proofs.YtcfjhbcpjpgodaaDoor
namespace Go.Proofs.YtcfjhbcpjpgodaaDoor
open Go.RowKit

section
variable {P : Program}
theorem wpList_slice_run {ops : Array Oper} {rest : List Oper} {op : Oper} {a : Act} {w : World} {Q : Exit → Act → World → Prop} (hgd : op.guard = none) (t : TypeId) (x : Operand) (lo hi mx : Option Operand) (ho : op.op = .slice t x lo hi mx) (vx v : Value) (vl vh vm : Option Value)
    (hx : a.eval x = vx) (hl : lo.map a.eval = vl) (hh : hi.map a.eval = vh) (hm : mx.map a.eval = vm) (hr : (Instr.sliceAt t vx vl vh vm).run P w = .ok v w) (h : wpList P ops Q rest (a.put op.dst v) w) : wpList P ops Q (op :: rest) a w :=
  wpList_plain hgd fun _ hK => by
    unfold Oper.wp execOp
    simp only [ho, hx, hl, hh, hm, hr, Sem.run_bind, Sem.run_pure, Result.andThen_ok]
    exact hK _ _ h
end

theorem addr_add0 (p : Option Addr) : p.map (fun a => a.add 0) = p := by cases p <;> simp [Addr.add]

theorem slice_front (p : Option Addr) (n c r : Nat) (hr : r ≤ c) (W : World) : (Instr.sliceAt 39 (.slice p n c) none (some (.int .i64 (r : Int))) none).run Tryd.prog W = .ok (.slice p r c) W := by
  have h2 := addr_add0 p
  simp [Instr.sliceAt, Instr.slice, Instr.sliceBounds, Instr.sliceBound, asIntOf, run_underlying Tryd.underlying39, Tryd.sizeOf9, hr, h2]

theorem slice_back (p : Option Addr) (n c r : Nat) (hr : r ≤ n) (W : World) : (Instr.sliceAt 39 (.slice p n c) (some (.int .i64 (r : Int))) none none).run Tryd.prog W = .ok (.slice (if c = r then p else p.map (fun a => a.add r)) (n - r) (c - r)) W := by
  simp [Instr.sliceAt, Instr.slice, Instr.sliceBounds, Instr.sliceBound, asIntOf, run_underlying Tryd.underlying39, Tryd.sizeOf9, hr]

theorem cut_any {w : World} {base : Nat} {v : Value} {L : List ByteArray} (h : w.ownsRow base 9 1 v L.length (L.map .string)) (r : Nat) (hr : r ≤ L.length) : ∃ (vp tp : Option Addr) (vc tc : Nat), v = .slice vp L.length vc ∧ NilOr vp L.length vc ∧ NilOr vp r vc ∧ NilOr tp (L.length - r) tc ∧
    Lies w w.heap.size vp L.length (fun i => .string (L.getD i ByteArray.empty)) ∧ Lies w w.heap.size tp (L.length - r) (fun i => .string (L.getD (r + i) ByteArray.empty)) ∧
    (∀ W, (Instr.sliceAt 39 (.slice vp L.length vc) none (some (.int .i64 (r : Int))) none).run Tryd.prog W = .ok (.slice vp r vc) W) ∧ (∀ W, (Instr.sliceAt 39 (.slice vp L.length vc) (some (.int .i64 (r : Int))) none none).run Tryd.prog W = .ok (.slice tp (L.length - r) tc) W) := by
  have hl := own_lies h
  rcases h.2 with ⟨rfl, h0⟩ | ⟨g, cap, cur, rfl, hb, hg, hnc, hcm, hcs, ht⟩
  · obtain rfl : r = 0 := by omega
    refine ⟨none, none, 0, 0, by rw [h0], Or.inl ⟨rfl, h0, rfl⟩, Or.inl ⟨rfl, rfl, rfl⟩, Or.inl ⟨rfl, by omega, rfl⟩, fun i hi => by omega, fun i hi => by omega, fun W => slice_front none _ 0 0 (Nat.le_refl _) W, fun W => ?_⟩
    have := slice_back none L.length 0 0 (Nat.zero_le _) W
    simpa using this
  · obtain ⟨p, c, e, _, hlies⟩ := hl
    cases e
    refine ⟨some ⟨g, 0, none⟩, (if cap = r then some ⟨g, 0, none⟩ else (some (⟨g, 0, none⟩ : Addr)).map (fun a => a.add r)), cap, cap - r, rfl, Or.inr ⟨g, 0, rfl⟩, Or.inr ⟨g, 0, rfl⟩, ?_, hlies, ?_, fun W => slice_front _ _ cap r (by omega) W, fun W => slice_back _ _ cap r hr W⟩
    · split
      · exact Or.inr ⟨g, 0, rfl⟩
      · exact Or.inr ⟨g, 0 + r, by rw [Option.map_some, addr_add]⟩
    · intro i hi
      obtain ⟨b, o, e, hb2, hc⟩ := hlies (r + i) (by omega)
      cases e
      rw [if_neg (by omega)]
      exact ⟨g, 0 + r, by rw [Option.map_some, addr_add], hb2, by rw [Nat.add_assoc]; exact hc⟩

end Go.Proofs.YtcfjhbcpjpgodaaDoor
