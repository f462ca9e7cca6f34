/- Proved here: what the listed sentinels give a walk: twelve package-level variables that each hold a pointer to an errors.errorString, all of them different, and that this holds still in every later world in which nothing old has turned. · Proved here: what the statements' function which answers at nil (0) and at one of the twelve sentinels (its number), and that it leaves all old memory as it was. · Proved here: what wire's hasFrame and mark answer at every message. · Proved here: what wire.Encode answers at a message that has a frame: the frame, and no error. · Proved here: what wire.Encode answers at a proposal that has a frame: the frame, and no error. -/
import Derived.Test.YtcfjhbcpjpgodaaDoorJ0
import Derived.Stop.LaidErr
import Derived.Below
import Derived.LaidOnce
import Derived.Test.YtcfjhbcpjpgodaaDoorJ6
import Derived.WalkSpells
import Derived.WalkLawsBesides
import Derived.Test.YtcfjhbcpjpgodaaDoorJ2
import Derived.Lib.BufferWrite
import Derived.Laws.MakeOwn
import Derived.Deep.QuietTactic
import Derived.BigQuiet
import Derived.Deep.RegionWith
namespace Go.Proofs.YtcfjhbcpjpgodaaDoor
open Go.RowKit

/-- The variables gs hold pointers es, all different, each into a row of cells without a frozen range. -/
structure SentIn (tp : TypeId) (gs : List Nat) (es : List Addr) (w : World) : Prop where
  len : es.length = gs.length
  nodup : es.Nodup
  cell : ∀ (i g : Nat) (a : Addr), gs[i]? = some g → es[i]? = some a → w.cell? ⟨g, 0, none⟩ = some (.iface tp (.pointer (some a)))
  blk : ∀ a, a ∈ es → ∃ c t, w.heap[a.block]? = some (.cells c t (0, 0))

theorem SentIn.later {tp : TypeId} {gs : List Nat} {es : List Addr} {w w' : World} (h : SentIn tp gs es w) (hb : Below w.heap.size w w') : SentIn tp gs es w' := by
  refine ⟨h.len, h.nodup, fun i g a hg ha => ?_, fun a ha => ?_⟩
  · have hc := h.cell i g a hg ha
    rw [hb.cell (p := ⟨g, 0, none⟩) (World.block_lt_of_cell? _ _ hc)]
    exact hc
  · obtain ⟨c, t, hc⟩ := h.blk a ha
    refine ⟨c, t, ?_⟩
    have hlt : a.block < w.heap.size := by
      rcases Nat.lt_or_ge a.block w.heap.size with h' | h'
      · exact h'
      · simp [Array.getElem?_eq_none h'] at hc
    rw [hb.block _ hlt]
    exact hc

theorem sents_of_vars {P : Program} {nm : String} {W : World} {ti tp te ts : TypeId} {ms : Array (String × TypeId)} {f : Field}
    (hi : P.underlying ti = some (.interface ms)) (hrow : ∀ u, P.typeName? 3 u = some nm → u = tp)
    (hp : P.underlying tp = some (.pointer te)) (he : P.underlying te = some (.struct #[f])) (hft : f.type = ts) (hfo : f.offset = 0) (hs : P.underlying ts = some .string) (hc : P.cellsOf te = 1) (hcs : P.cellsOf ts = 1)
    (r : List (String × DataW Unit)) :
    ∀ (ls : List (String × List UInt8)) (gs : List Nat) (ps : List MemPlace), ls.map (fun x => P.globalNamed x.1) = gs.map some → (∀ g, g ∈ gs → (P.globals[g]?).map (·.type) = some ti) →
      DataW.LaidVars P W (ls.map (fun x => (x.1, .iface nm (.ptr (.agg [.lit (.string x.2)])))) ++ r) ps →
      (∀ b off, MemPlace.cell b off ∈ ps → (∃ c t, W.heap[b]? = some (.cells c t (0, 0))) ∧ ∀ u v, W.cell? ⟨b, off, none⟩ = some (.iface u v) → Value.okWide P W .any 0 u v) →
      ∃ es : List Addr, es.length = gs.length ∧ (es.map fun a => MemPlace.cell a.block a.off).Sublist ps ∧
        (∀ (i g : Nat) (a : Addr), gs[i]? = some g → es[i]? = some a → W.cell? ⟨g, 0, none⟩ = some (.iface tp (.pointer (some a)))) ∧ ∀ a, a ∈ es → ∃ c t, W.heap[a.block]? = some (.cells c t (0, 0)) := by
  intro ls
  induction ls with
  | nil =>
    intro gs ps hg _ _ _
    cases gs with
    | nil => exact ⟨[], rfl, by simp, by simp, by simp⟩
    | cons g gs => simp at hg
  | cons x ls ih =>
    intro gs ps hg ht hv hrows
    cases gs with
    | nil => simp at hg
    | cons g gs =>
      simp only [List.map_cons, List.cons.injEq] at hg
      obtain ⟨hg0, hgs⟩ := hg
      obtain ⟨g0, t0, cs0, f0, p0, q0, hg0', ht0', hv0, hd0, hq, e0⟩ := hv
      obtain rfl := Option.some.inj (hg0.symm.trans hg0')
      have ht0 := ht g (by simp)
      obtain rfl := Option.some.inj (ht0.symm.trans ht0')
      subst e0
      obtain ⟨l0⟩ := cs0
      have ok0 : ∀ u v, l0 = [.iface u v] → Value.okWide P W .any 0 u v := fun u v e => by
        subst e
        exact (hrows g 0 (by simp [MemPlace.row])).2 u v (by simpa using World.var?_cell hg0' hv0 0)
      obtain ⟨a0, s0, rfl, hc0, hs0, hz0, rfl⟩ := errorString_of_trod hi hrow hp he hft hfo hs hc hcs hd0 ok0
      obtain ⟨es, hlen, hsub, hcell, hblk⟩ := ih gs q0 hgs (fun g hm => ht g (by simp [hm])) hq (fun b off hm => hrows b off (by simp [hm]))
      refine ⟨a0 :: es, by simp [hlen], ?_, ?_, ?_⟩
      · have e1 : MemPlace.row a0 1 = [MemPlace.cell a0.block a0.off] := by simp [MemPlace.row]
        rw [e1]
        simp only [List.map_cons, List.append_assoc, List.singleton_append]
        exact (List.Sublist.cons_cons _ hsub).trans (List.sublist_append_right _ _)
      · intro i g' a hi' ha
        cases i with
        | zero =>
          simp only [List.getElem?_cons_zero, Option.some.injEq] at hi' ha
          subst hi'; subst ha
          simpa using World.var?_cell hg0' hv0 0
        | succ i => exact hcell i g' a (by simpa using hi') (by simpa using ha)
      · intro a ha
        rcases List.mem_cons.1 ha with rfl | ha
        · exact (hrows a.block a.off (by simp [MemPlace.row])).1
        · exact hblk a ha

theorem sents_of_laid {P : Program} {nm : String} {W : World} {ti tp te ts : TypeId} {ms : Array (String × TypeId)} {f : Field}
    (hi : P.underlying ti = some (.interface ms)) (hrow : ∀ u, P.typeName? 3 u = some nm → u = tp)
    (hp : P.underlying tp = some (.pointer te)) (he : P.underlying te = some (.struct #[f])) (hft : f.type = ts) (hfo : f.offset = 0) (hs : P.underlying ts = some .string) (hc : P.cellsOf te = 1) (hcs : P.cellsOf ts = 1)
    (r : List (String × DataW Unit)) (ls : List (String × List UInt8)) (gs : List Nat) (hg : ls.map (fun x => P.globalNamed x.1) = gs.map some) (ht : ∀ g, g ∈ gs → (P.globals[g]?).map (·.type) = some ti)
    (h : laidMet P (ls.map (fun x => (x.1, .iface nm (.ptr (.agg [.lit (.string x.2)])))) ++ r) W) : ∃ es, SentIn tp gs es W := by
  obtain ⟨ps, hv, hnd, hrows⟩ := h
  obtain ⟨es, hlen, hsub, hcell, hblk⟩ := sents_of_vars hi hrow hp he hft hfo hs hc hcs r ls gs ps hg ht hv hrows
  refine ⟨es, hlen, ?_, hcell, hblk⟩
  have h1 := List.Nodup.sublist hsub hnd
  rw [List.Nodup, List.pairwise_map] at h1
  exact h1.imp fun hne e => hne (by rw [e])

theorem Tryd.star : "*" ++ "errors.errorString" = "*errors.errorString" := by decide
theorem Tryd.rowE (u : TypeId) (h : Tryd.prog.typeName? 3 u = some "*errors.errorString") : u = 188 :=
  typeName_ptr_named (nm := "errors.errorString") (by rw [Tryd.star]; kernel_rfl) (by kernel_rfl) (by decide) u (by rw [Tryd.star]; exact h)
theorem Tryd.cellsE : Tryd.prog.cellsOf 207 = 1 := by kernel_rfl
theorem Tryd.cellsS : Tryd.prog.cellsOf 9 = 1 := by kernel_rfl

/-- The names and texts of the sentinels, in the order of package api. -/
def sentNames : List (String × List UInt8) := [("synod/api.ErrArg", [119, 104, 97, 116, 32, 109, 97, 121, 32, 110, 111, 116, 32, 98, 101]), ("synod/api.ErrForm", [110, 111, 32, 102, 114, 97, 109, 101]), ("synod/api.ErrSeal", [110, 111, 116, 32, 115, 105, 103, 110, 101, 100, 32, 98, 121, 32, 105, 116, 115, 32, 115, 101, 110, 100, 101, 114]), ("synod/api.ErrPast", [111, 102, 32, 97, 32, 104, 101, 105, 103, 104, 116, 32, 116, 104, 97, 116, 32, 105, 115, 32, 100, 101, 99, 105, 100, 101, 100]), ("synod/api.ErrFar", [111, 102, 32, 97, 32, 104, 101, 105, 103, 104, 116, 32, 111, 114, 32, 114, 111, 117, 110, 100, 32, 116, 111, 111, 32, 102, 97, 114, 32, 97, 119, 97, 121]), ("synod/api.ErrOutsider", [102, 114, 111, 109, 32, 111, 110, 101, 32, 119, 104, 111, 32, 104, 97, 115, 32, 110, 111, 32, 115, 97, 121, 32, 105, 110, 32, 116, 104, 105, 115]), ("synod/api.ErrKnown", [107, 110, 111, 119, 110, 32, 97, 108, 114, 101, 97, 100, 121]), ("synod/api.ErrMany", [109, 111, 114, 101, 32, 116, 104, 97, 110, 32, 111, 110, 101, 32, 109, 97, 121, 32, 115, 97, 121]), ("synod/api.ErrFull", [109, 111, 114, 101, 32, 116, 104, 97, 110, 32, 109, 97, 121, 32, 119, 97, 105, 116]), ("synod/api.ErrCert", [110, 111, 32, 99, 101, 114, 116, 105, 102, 105, 99, 97, 116, 101]), ("synod/api.ErrNone", [110, 111, 116, 104, 105, 110, 103, 32, 116, 104, 101, 114, 101]), ("synod/api.ErrRecord", [110, 111, 32, 103, 111, 111, 100, 32, 114, 101, 99, 111, 114, 100, 32, 111, 114, 32, 98, 108, 111, 99, 107])]
def sentGs : List Nat := [0, 1, 2, 3, 4, 5, 6, 7, 8, 9, 10, 11]
theorem Tryd.sentG : sentNames.map (fun x => Tryd.prog.globalNamed x.1) = sentGs.map some := by kernel_rfl
theorem Tryd.sentT (g : Nat) (h : g ∈ sentGs) : (Tryd.prog.globals[g]?).map (·.type) = some 23 := by
  have ha : (sentGs.all fun g => (Tryd.prog.globals[g]?).map (·.type) == some 23) = true := by kernel_rfl
  simpa using List.all_eq_true.1 ha g h

/-- The twelve sentinels of package api, by their pointers. -/
def Sent (es : List Addr) (w : World) : Prop := SentIn 188 sentGs es w

theorem Sent.later {es : List Addr} {w w' : World} (h : Sent es w) (hb : Below w.heap.size w w') : Sent es w' := SentIn.later h hb

theorem sent_of_laid (r : List (String × DataW Unit)) {W : World} (h : laidMet Tryd.prog (sentNames.map (fun x => (x.1, .iface "*errors.errorString" (.ptr (.agg [.lit (.string x.2)])))) ++ r) W) : ∃ es, Sent es W :=
  sents_of_laid Tryd.underlying23 Tryd.rowE Tryd.underlying188 Tryd.underlying207 rfl rfl Tryd.underlying9 Tryd.cellsE Tryd.cellsS r sentNames sentGs Tryd.sentG Tryd.sentT h

end Go.Proofs.YtcfjhbcpjpgodaaDoor
namespace Go.Proofs.YtcfjhbcpjpgodaaDoor
open Go.RowKit Go.Extern.Stop Go.Stop Go.Extern

/-- errors.Is between two of the sentinels: true just at the same one. -/
theorem is_sent {es : List Addr} {w : World} (hS : Sent es w) (i j : Nat) (a b : Addr) (hi : es[i]? = some a) (hj : es[j]? = some b) (t : Bool) (ht : t = decide (i = j)) :
    Calls Tryd.prog 36 #[.iface 188 (.pointer (some a)), .iface 188 (.pointer (some b))] w fun e w' => e = .returned (.bool t) ∧ w' = w := by
  subst ht
  by_cases h : i = j
  · subst h
    rw [hi] at hj
    obtain rfl := Option.some.inj hj
    simpa using is_same a w
  · obtain ⟨ca, ta, ha⟩ := hS.blk a (List.mem_of_getElem? hi)
    obtain ⟨cb, tb, hb⟩ := hS.blk b (List.mem_of_getElem? hj)
    have hne : a ≠ b := by
      rintro rfl
      have hn := hS.nodup
      obtain ⟨hi1, hi2⟩ := List.getElem?_eq_some_iff.1 hi
      obtain ⟨hj1, hj2⟩ := List.getElem?_eq_some_iff.1 hj
      rw [List.Nodup, List.pairwise_iff_getElem] at hn
      rcases Nat.lt_or_gt_of_ne h with h' | h'
      · exact hn i j hi1 hj1 h' (hi2.trans hj2.symm)
      · exact hn j i hj1 hi1 h' (hj2.trans hi2.symm)
    simpa [h] using is_other a b ca cb ta tb w hne ha hb

/-- What the loop of which has found behind the first j of them. -/
def numAt (k j : Nat) : Int := if k < j then (k : Int) + 1 else 99

set_option maxHeartbeats 400000 in
theorem which_at (a0 a1 a2 a3 a4 a5 a6 a7 a8 a9 a10 a11 a : Addr) (k : Nat) (w : World) (hS : Sent [a0, a1, a2, a3, a4, a5, a6, a7, a8, a9, a10, a11] w) (hk : [a0, a1, a2, a3, a4, a5, a6, a7, a8, a9, a10, a11][k]? = some a) :
    Calls Tryd.prog 8 #[.iface 188 (.pointer (some a))] w fun e w' => e = .returned (.int .i64 (k + 1)) ∧ Below w.heap.size w w' := by
  have c0 := hS.cell 0 _ _ rfl rfl
  have c1 := hS.cell 1 _ _ rfl rfl
  have c2 := hS.cell 2 _ _ rfl rfl
  have c3 := hS.cell 3 _ _ rfl rfl
  have c4 := hS.cell 4 _ _ rfl rfl
  have c5 := hS.cell 5 _ _ rfl rfl
  have c6 := hS.cell 6 _ _ rfl rfl
  have c7 := hS.cell 7 _ _ rfl rfl
  have c8 := hS.cell 8 _ _ rfl rfl
  have c9 := hS.cell 9 _ _ rfl rfl
  have c10 := hS.cell 10 _ _ rfl rfl
  have c11 := hS.cell 11 _ _ rfl rfl
  have hK := hide hk
  have hS' := hide hS
  clear hk hS
  go_enter Tryd.func8, Tryd.ntmps8
  go_wp2
  go_loopw [4, 5] (fun n i wr => ∃ j : Nat, j ≤ 12 ∧ i = .int .i64 j ∧ n = .int .i64 (numAt k j) ∧ (∀ j, j < 12 → wr.cell? ⟨w.heap.size, j, none⟩ = some (.iface 188 (.pointer (some ([a0, a1, a2, a3, a4, a5, a6, a7, a8, a9, a10, a11].getD j a0))))) ∧ Below w.heap.size w wr) (fun _ i _ => 12 - (intOf i).toNat)
  case atStart =>
    refine ⟨0, by omega, rfl, rfl, ?_, (Below.refl _ _).alloc (Nat.le_refl _) _⟩
    intro j hj
    match j, hj with
    | 0, _ | 1, _ | 2, _ | 3, _ | 4, _ | 5, _ | 6, _ | 7, _ | 8, _ | 9, _ | 10, _ | 11, _ => simp
  case round =>
    obtain ⟨j, hj, rfl, hn, hcell, hb⟩ := hrel
    have hS1 := hide (hS'.out.later hb)
    by_cases hlt : j < 12
    · have hc := hcell j hlt
      have hjb : [a0, a1, a2, a3, a4, a5, a6, a7, a8, a9, a10, a11][j]? = some ([a0, a1, a2, a3, a4, a5, a6, a7, a8, a9, a10, a11].getD j a0) := by
        rw [List.getD_eq_getElem?_getD, List.getElem?_eq_getElem (by simpa using hlt)]; rfl
      generalize [a0, a1, a2, a3, a4, a5, a6, a7, a8, a9, a10, a11].getD j a0 = b at hc hjb
      have hJ := hide hjb
      have hcl := hide hcell
      clear hcell hjb
      rcases Nat.lt_trichotomy j k with hjk | hjk | hjk
      · have e1 : numAt k j = 99 := by unfold numAt; rw [if_neg (by omega)]
        have e2 : Hid (numAt k (j + 1) = 99) := by unfold Hid numAt; rw [if_neg (by omega)]
        rw [e1] at hn
        clear e1
        subst hn
        go_wp2_with (go_at_call 36; refine (is_sent hS1.out k j _ _ hK.out hJ.out false (by simp; omega)).mono ?_; rintro e w' ⟨rfl, rfl⟩)
        go_roundw
        case rel => exact ⟨j + 1, by omega, by go_num, by rw [e2.out], hcl.out, hb⟩
        case measure => simp [intOf]; omega
      · subst hjk
        have e1 : numAt j j = 99 := by unfold numAt; rw [if_neg (by omega)]
        have e2 : Hid (numAt j (j + 1) = (j : Int) + 1) := by unfold Hid numAt; rw [if_pos (by omega)]
        rw [e1] at hn
        clear e1
        subst hn
        go_wp2_with (go_at_call 36; refine (is_sent hS1.out j j _ _ hK.out hJ.out true (by simp)).mono ?_; rintro e w' ⟨rfl, rfl⟩)
        go_roundw
        case rel => exact ⟨j + 1, by omega, by go_num, by rw [e2.out], hcl.out, hb⟩
        case measure => simp [intOf]; omega
      · have e1 : numAt k j = (k : Int) + 1 := by unfold numAt; rw [if_pos (by omega)]
        have e2 : Hid (numAt k (j + 1) = (k : Int) + 1) := by unfold Hid numAt; rw [if_pos (by omega)]
        rw [e1] at hn
        clear e1
        subst hn
        go_wp2_with (go_at_call 36; refine (is_sent hS1.out k j _ _ hK.out hJ.out false (by simp; omega)).mono ?_; rintro e w' ⟨rfl, rfl⟩)
        go_roundw
        case rel => exact ⟨j + 1, by omega, by go_num, by rw [e2.out], hcl.out, hb⟩
        case measure => simp [intOf]; omega
    · have hk12 : k < 12 := by simpa using (List.getElem?_eq_some_iff.1 hK.out).1
      have e1 : numAt k j = (k : Int) + 1 := by unfold numAt; rw [if_pos (by omega)]
      rw [e1] at hn
      clear e1
      subst hn
      go_wp2
      go_ret
      exact ⟨rfl, hb⟩

theorem which_nil {es : List Addr} {w : World} (hS : Sent es w) :
    Calls Tryd.prog 8 #[.nilIface] w fun e w' => e = .returned (.int .i64 0) ∧ Below w.heap.size w w' := by
  match es, hS.len with
  | [a0, a1, a2, a3, a4, a5, a6, a7, a8, a9, a10, a11], _ =>
  have c0 := hS.cell 0 _ _ rfl rfl
  have c1 := hS.cell 1 _ _ rfl rfl
  have c2 := hS.cell 2 _ _ rfl rfl
  have c3 := hS.cell 3 _ _ rfl rfl
  have c4 := hS.cell 4 _ _ rfl rfl
  have c5 := hS.cell 5 _ _ rfl rfl
  have c6 := hS.cell 6 _ _ rfl rfl
  have c7 := hS.cell 7 _ _ rfl rfl
  have c8 := hS.cell 8 _ _ rfl rfl
  have c9 := hS.cell 9 _ _ rfl rfl
  have c10 := hS.cell 10 _ _ rfl rfl
  have c11 := hS.cell 11 _ _ rfl rfl
  clear hS
  go_enter Tryd.func8, Tryd.ntmps8
  go_wp2
  go_ret
  exact ⟨rfl, (Below.refl _ _).alloc (Nat.le_refl _) _⟩

/-- which at the sentinel with the number k + 1. -/
theorem which_sent {es : List Addr} {w : World} (hS : Sent es w) (k : Nat) (a : Addr) (hk : es[k]? = some a) :
    Calls Tryd.prog 8 #[.iface 188 (.pointer (some a))] w fun e w' => e = .returned (.int .i64 (k + 1)) ∧ Below w.heap.size w w' := by
  match es, hS.len with
  | [a0, a1, a2, a3, a4, a5, a6, a7, a8, a9, a10, a11], _ => exact which_at a0 a1 a2 a3 a4 a5 a6 a7 a8 a9 a10 a11 a k w hS hk

end Go.Proofs.YtcfjhbcpjpgodaaDoor
namespace Go.Proofs.YtcfjhbcpjpgodaaDoor
open Go.RowKit

set_option maxHeartbeats 400000 in
theorem hasFrame_any (K H R F V : Int) (nl : Bool) (s : ByteArray) (w : World) (hs : s.size ≤ maxLen) :
    Calls Tryd.prog 55 #[.agg #[.int .i64 K, .int .i64 H, .int .i64 R, .int .i64 F, .int .i64 V, .bool nl, .string s]] w fun e w' => e = .returned (.bool (hasB K H R F V nl s.size)) ∧ Below w.heap.size w w' := by
  unfold maxLen at hs
  by_cases h1 : H < 0
  · go_enter Tryd.func55, Tryd.ntmps55
    go_wp2
    go_ret
    exact ⟨ret_bool (by simp [hasB] <;> omega), (Below.refl _ _).alloc (Nat.le_refl _) _⟩
  by_cases h2 : 12 ≤ H
  · go_enter Tryd.func55, Tryd.ntmps55
    go_wp2
    go_ret
    exact ⟨ret_bool (by simp [hasB] <;> omega), (Below.refl _ _).alloc (Nat.le_refl _) _⟩
  by_cases h3 : R < 0
  · go_enter Tryd.func55, Tryd.ntmps55
    go_wp2
    go_ret
    exact ⟨ret_bool (by simp [hasB] <;> omega), (Below.refl _ _).alloc (Nat.le_refl _) _⟩
  by_cases h4 : 255 < R
  · go_enter Tryd.func55, Tryd.ntmps55
    go_wp2
    go_ret
    exact ⟨ret_bool (by simp [hasB] <;> omega), (Below.refl _ _).alloc (Nat.le_refl _) _⟩
  by_cases h5 : F < 0
  · go_enter Tryd.func55, Tryd.ntmps55
    go_wp2
    go_ret
    exact ⟨ret_bool (by simp [hasB] <;> omega), (Below.refl _ _).alloc (Nat.le_refl _) _⟩
  by_cases h6 : 8 ≤ F
  · go_enter Tryd.func55, Tryd.ntmps55
    go_wp2
    go_ret
    exact ⟨ret_bool (by simp [hasB] <;> omega), (Below.refl _ _).alloc (Nat.le_refl _) _⟩
  by_cases h7 : 24 < (s.size : Int)
  · go_enter Tryd.func55, Tryd.ntmps55
    go_wp2
    go_ret
    exact ⟨ret_bool (by simp [hasB] <;> omega), (Below.refl _ _).alloc (Nat.le_refl _) _⟩
  by_cases k1 : K = 1
  · subst k1
    cases nl with
    | true =>
      go_enter Tryd.func55, Tryd.ntmps55
      go_wp2
      go_ret
      exact ⟨ret_bool (by simp [hasB] <;> omega), (Below.refl _ _).alloc (Nat.le_refl _) _⟩
    | false =>
      by_cases v1 : -1 ≤ V
      · by_cases v2 : V < R
        · have v2' : ¬ R ≤ V := by omega
          go_enter Tryd.func55, Tryd.ntmps55
          go_wp2
          go_ret
          exact ⟨ret_bool (by simp [hasB] <;> omega), (Below.refl _ _).alloc (Nat.le_refl _) _⟩
        · go_enter Tryd.func55, Tryd.ntmps55
          go_wp2
          go_ret
          exact ⟨ret_bool (by simp [hasB] <;> omega), (Below.refl _ _).alloc (Nat.le_refl _) _⟩
      · go_enter Tryd.func55, Tryd.ntmps55
        go_wp2
        go_ret
        exact ⟨ret_bool (by simp [hasB] <;> omega), (Below.refl _ _).alloc (Nat.le_refl _) _⟩
  have k1' : (K == 1) = false := by simpa using k1
  by_cases k23 : K = 2 ∨ K = 3
  · by_cases v0 : V = 0
    · subst v0
      cases nl with
      | false =>
        rcases k23 with k | k
        · subst k
          clear k1'
          go_enter Tryd.func55, Tryd.ntmps55
          go_wp2
          go_ret
          exact ⟨ret_bool (by simp [hasB] <;> omega), (Below.refl _ _).alloc (Nat.le_refl _) _⟩
        · subst k
          clear k1'
          go_enter Tryd.func55, Tryd.ntmps55
          go_wp2
          go_ret
          exact ⟨ret_bool (by simp [hasB] <;> omega), (Below.refl _ _).alloc (Nat.le_refl _) _⟩
      | true =>
        rcases k23 with k | k
        · subst k
          clear k1'
          go_enter Tryd.func55, Tryd.ntmps55
          go_wp2
          go_ret
          refine ⟨ret_bool ?_, (Below.refl _ _).alloc (Nat.le_refl _) _⟩
          rw [isEmpty_size]
          exact hasB_nil _ _ _ _ _ (by omega) (by omega) (by omega) (by omega) (by omega) (by omega) (by omega) (by omega)
        · subst k
          clear k1'
          go_enter Tryd.func55, Tryd.ntmps55
          go_wp2
          go_ret
          refine ⟨ret_bool ?_, (Below.refl _ _).alloc (Nat.le_refl _) _⟩
          rw [isEmpty_size]
          exact hasB_nil _ _ _ _ _ (by omega) (by omega) (by omega) (by omega) (by omega) (by omega) (by omega) (by omega)
    · have v0' : (V == 0) = false := by simpa using v0
      rcases k23 with k | k
      · subst k
        clear k1'
        go_enter Tryd.func55, Tryd.ntmps55
        go_wp2
        go_ret
        exact ⟨ret_bool (by simp [hasB] <;> omega), (Below.refl _ _).alloc (Nat.le_refl _) _⟩
      · subst k
        clear k1'
        go_enter Tryd.func55, Tryd.ntmps55
        go_wp2
        go_ret
        exact ⟨ret_bool (by simp [hasB] <;> omega), (Below.refl _ _).alloc (Nat.le_refl _) _⟩
  · have k2 : (K == 2) = false := by simp; omega
    have k3 : (K == 3) = false := by simp; omega
    go_enter Tryd.func55, Tryd.ntmps55
    go_wp2
    go_ret
    exact ⟨ret_bool (by simp [hasB] <;> omega), (Below.refl _ _).alloc (Nat.le_refl _) _⟩

theorem wireMark_any (K H R F V : Int) (nl : Bool) (s : ByteArray) (w : World) (h : hasB K H R F V nl s.size = true) :
    Calls Tryd.prog 56 #[.agg #[.int .i64 K, .int .i64 H, .int .i64 R, .int .i64 F, .int .i64 V, .bool nl, .string s]] w fun e w' => e = .returned (.int .u8 (markOf K V nl)) ∧ Below w.heap.size w w' := by
  have h' := of_decide_eq_true h
  clear h
  by_cases k1 : K = 1
  · subst k1
    have v1 : -1 ≤ V := by omega
    have v2 : V < 255 := by omega
    clear h'
    go_enter Tryd.func56, Tryd.ntmps56
    go_wp2
    go_ret
    refine ⟨ret_int ?_, (Below.refl _ _).alloc (Nat.le_refl _) _⟩
    simp [markOf]
  · have k1' : (K == 1) = false := by simpa using k1
    clear h'
    cases nl
    · go_enter Tryd.func56, Tryd.ntmps56
      go_wp2
      go_ret
      exact ⟨ret_int (by simp [markOf, k1]), (Below.refl _ _).alloc (Nat.le_refl _) _⟩
    · go_enter Tryd.func56, Tryd.ntmps56
      go_wp2
      go_ret
      exact ⟨ret_int (by simp [markOf, k1]), (Below.refl _ _).alloc (Nat.le_refl _) _⟩

end Go.Proofs.YtcfjhbcpjpgodaaDoor
namespace Go.Proofs.YtcfjhbcpjpgodaaDoor
open Go.RowKit

theorem Tryd.infoByte : (Tryd.prog.info? 5).map (fun i => (i.size, i.bytes, i.zero)) = some (1, 1, some (.int .u8 0)) := by kernel_rfl

theorem nums_bytes (s : ByteArray) : strOfNums (s.data.toList.map fun b => (b.toNat : Int)) = s := by
  apply ByteArray.ext
  apply Array.toList_inj.1
  show (List.map _ _).toArray.toList = _
  rw [List.toList_toArray, List.map_map]
  conv => rhs; rw [← List.map_id s.data.toList]
  apply List.map_congr_left
  intro x _
  simp

theorem nums_append (a b : List Int) : strOfNums (a ++ b) = strOfNums a ++ strOfNums b := by
  apply ByteArray.ext
  apply Array.toList_inj.1
  simp [strOfNums]

/-- A row of bytes that holds a head and a text, as a string. -/
theorem conv_row (W : World) (g : Nat) (Y : Array Value) (K H R F m : Int) (s : ByteArray) (hg : W.heap[g]? = some (.cells Y 5 (0, 0)))
    (hY : Y.toList = [.int .u8 K, .int .u8 H, .int .u8 R, .int .u8 F, .int .u8 m, .int .u8 s.size] ++ Lib.byteCells s.data.toList) :
    (convert 90 9 (.slice (some ⟨g, 0, none⟩) (6 + s.size) (6 + s.size))).run Tryd.prog W = .ok (.string (frameOf K H R F m s)) W := by
  have h := run_convert_bytes_arg (P := Tryd.prog) W 90 5 Tryd.underlying90 Tryd.underlying5 g 0 (6 + s.size) (6 + s.size) ([K, H, R, F, m, s.size] ++ s.data.toList.map fun b => (b.toNat : Int)) (by simp; omega) (fun i hi => by
    have e : Y.toList[i]? = some (.int .u8 (([K, H, R, F, m, (s.size : Int)] ++ s.data.toList.map fun b => (b.toNat : Int)).getD i 0)) := by
      rw [hY]
      have e2 : [Value.int .u8 K, .int .u8 H, .int .u8 R, .int .u8 F, .int .u8 m, .int .u8 s.size] ++ Lib.byteCells s.data.toList = ([K, H, R, F, m, (s.size : Int)] ++ s.data.toList.map fun b => (b.toNat : Int)).map (Value.int .u8) := by
        simp [Lib.byteCells]
      rw [e2, List.getElem?_map, List.getD_eq_getElem?_getD]
      have hlt : i < ([K, H, R, F, m, (s.size : Int)] ++ s.data.toList.map fun b => (b.toNat : Int)).length := by simp; omega
      rw [List.getElem?_eq_getElem hlt]
      rfl
    rw [Nat.zero_add]
    simp only [World.cell?, hg]
    rw [← Array.getElem?_toList]
    exact e) 9 Tryd.underlying9
  rw [h, nums_append, nums_bytes]
  rfl

theorem six_set (M : Array Value) (n : Nat) (z a0 a1 a2 a3 a4 a5 : Value) (h : M.toList = List.replicate (6 + n) z) :
    ((((((M.setIfInBounds 0 a0).setIfInBounds 1 a1).setIfInBounds 2 a2).setIfInBounds 3 a3).setIfInBounds 4 a4).setIfInBounds 5 a5).toList = [a0, a1, a2, a3, a4, a5] ++ List.replicate n z := by
  have e : List.replicate (6 + n) z = z :: z :: z :: z :: z :: z :: List.replicate n z := by rw [Nat.add_comm]; rfl
  simp only [Array.toList_setIfInBounds, h, e]
  rfl

end Go.Proofs.YtcfjhbcpjpgodaaDoor
namespace Go.Proofs.YtcfjhbcpjpgodaaDoor
open Go.RowKit

set_option maxRecDepth 100000 in
set_option maxHeartbeats 1000000 in
theorem wireEncode_a (H R F V : Int) (s : ByteArray) (w : World) (hs : s.size ≤ 24) (h1 : 0 ≤ H) (h2 : H < 12) (h3 : 0 ≤ R) (h4 : R ≤ 255) (h5 : 0 ≤ F) (h6 : F < 8) (h7 : -1 ≤ V) (h8 : V < R) :
    Calls Tryd.prog 37 #[.agg #[.int .i64 1, .int .i64 H, .int .i64 R, .int .i64 F, .int .i64 V, .bool false, .string s]] w fun e w' => e = .returned (.tuple #[.string (frameOf 1 H R F (V + 1) s), .nilIface]) ∧ Below w.heap.size w w' := by
  have hy : Hid (hasB 1 H R F V false s.size = true) := by unfold Hid; simp [hasB] <;> omega
  obtain ⟨i0, hi, hi'⟩ := Option.map_eq_some_iff.1 Tryd.infoByte
  have hz1 : i0.size = 1 := congrArg (·.1) hi'
  have hz2 : i0.bytes = 1 := congrArg (·.2.1) hi'
  have hz0 : i0.zero = some (.int .u8 0) := congrArg (·.2.2) hi'
  obtain ⟨M, hM⟩ : ∃ M, M = madeCells (Value.int .u8 0).cells (((6 + (s.size : Int)).toNat) * i0.size) := ⟨_, rfl⟩
  have hMl : M.toList = List.replicate (6 + s.size) (.int .u8 0) := by
    rw [hM]
    show (madeCells #[Value.int .u8 0] _).toList = _
    rw [toList_madeCells_one, hz1]
    congr 1
    omega
  have hmk : ∀ W : World, (Instr.makeSlice 90 (.int .i64 (6 + (s.size : Int))) (.int .i64 (6 + (s.size : Int)))).run Tryd.prog W = .ok (.slice (some ⟨W.heap.size, 0, none⟩) (6 + s.size) (6 + s.size)) (W.alloc (.cells M 5)) := fun W => by
    have h := run_make (P := Tryd.prog) W 90 5 i0 (.int .u8 0) Tryd.underlying90 hi hz0 .i64 .i64 (6 + (s.size : Int)) (6 + (s.size : Int)) (by omega) (by omega) (by rw [hz2]; omega) (by omega)
    rw [← hM] at h
    rw [h]
    have e : (6 + (s.size : Int)).toNat = 6 + s.size := by omega
    rw [e]
  have hMc : ∀ i, i < 6 → M[i]? = some (.int .u8 0) := fun i h => by
    rw [← Array.getElem?_toList, hMl, List.getElem?_replicate, if_pos (by omega)]
  have m0 := hMc 0 (by omega)
  have m1 := hMc 1 (by omega)
  have m2 := hMc 2 (by omega)
  have m3 := hMc 3 (by omega)
  have m4 := hMc 4 (by omega)
  have m5 := hMc 5 (by omega)
  have HMl := hide hMl
  clear hM hMc hz0 hz1 hz2 hi' hi hMl
  go_enter Tryd.func37, Tryd.ntmps37
  go_wp2_with fail
  refine (hasFrame_any 1 H R F V false s _ (by unfold maxLen; omega)).mono ?_
  rw [hy.out]
  rintro e w1 ⟨rfl, hb1⟩
  have hc := fun o => hb1.cell (p := ⟨w.heap.size, o, none⟩) (by simp)
  have q0 : w1.cell? ⟨w.heap.size, 0, none⟩ = some (.int .i64 1) := by rw [hc]; simp
  have q1 : w1.cell? ⟨w.heap.size, 1, none⟩ = some (.int .i64 H) := by rw [hc]; simp
  have q2 : w1.cell? ⟨w.heap.size, 2, none⟩ = some (.int .i64 R) := by rw [hc]; simp
  have q3 : w1.cell? ⟨w.heap.size, 3, none⟩ = some (.int .i64 F) := by rw [hc]; simp
  have q4 : w1.cell? ⟨w.heap.size, 4, none⟩ = some (.int .i64 V) := by rw [hc]; simp
  have q5 : w1.cell? ⟨w.heap.size, 5, none⟩ = some (.bool false) := by rw [hc]; simp
  have q6 : w1.cell? ⟨w.heap.size, 6, none⟩ = some (.string s) := by rw [hc]; simp
  have hlt : w.heap.size < w1.heap.size := by have := hb1.size; simp at this; omega
  have HB := hide hb1
  clear hc hb1
  go_wp2
  obtain ⟨C, hC⟩ : ∃ C, C = ((((((M.setIfInBounds 0 (Value.int IntKind.u8 1)).setIfInBounds 1 (Value.int IntKind.u8 H)).setIfInBounds 2 (Value.int IntKind.u8 R)).setIfInBounds 3 (Value.int IntKind.u8 F)).setIfInBounds 4 (Value.int IntKind.u8 ((V + 1)))).setIfInBounds 5 (Value.int IntKind.u8 s.size)) := ⟨_, rfl⟩
  rw [← hC]
  have hCl : C.toList = [Value.int .u8 1, .int .u8 H, .int .u8 R, .int .u8 F, .int .u8 ((V + 1)), .int .u8 s.size] ++ List.replicate s.size (.int .u8 0) := by rw [hC]; exact six_set M _ _ _ _ _ _ _ _ HMl.out
  have HC := hide hCl
  clear hC hCl m0 m1 m2 m3 m4 m5 hmk
  obtain ⟨W10, hW10⟩ : ∃ W, W = (w1.alloc (Obj.cells C 5)).alloc (Obj.cells #[Value.int IntKind.i64 1, Value.int IntKind.i64 H, Value.int IntKind.i64 R, Value.int IntKind.i64 F, Value.int IntKind.i64 V, Value.bool false, Value.string s] 28) := ⟨_, rfl⟩
  have hg10 : W10.heap[w1.heap.size]? = some (.cells C 5 (0, 0)) := by rw [hW10, Below.heap_alloc _ _ _ (by simp)]; exact heap_alloc_new w1 _
  have r6 : W10.cell? ⟨w.heap.size, 6, none⟩ = some (.string s) := by rw [hW10]; rw [World.cell?_of_block (w := w1) (by rw [Below.heap_alloc _ _ _ (by simp; omega), Below.heap_alloc _ _ _ hlt])]; exact q6
  have hB10 : Below w.heap.size w W10 := by
    rw [hW10]
    exact ((((Below.refl _ w).alloc (Nat.le_refl _) _).trans (HB.out.mono (by simp))).alloc (Nat.le_of_lt hlt) _).alloc (by simp; omega) _
  have HB10 := hide hB10
  rw [← hW10]
  clear hW10 hB10 q0 q1 q2 q3 q4 q5 q6
  by_cases hn : s = ByteArray.empty
  · have hn' : (s = ByteArray.empty) = True := by simp [hn]
    have hz : s.size = 0 := by rw [hn]; rfl
    have hcv := conv_row W10.drew w1.heap.size C 1 H R F ((V + 1)) s hg10 (by rw [HC.out, hz]; simp [Lib.byteCells, hn])
    have hcp := Lib.run_copy_empty_string (P := Tryd.prog) W10.drew 90 9 3 5 (some ⟨w1.heap.size, 0, none⟩) s.size s.size s Tryd.underlying90 (by kernel_rfl) hz
    clear hn hz
    go_region
    go_wp2
    go_ret2
    exact ⟨rfl, HB10.out.drew⟩
  · have hcp := Lib.run_copy_row_string (P := Tryd.prog) W10.drew 90 9 3 5 w1.heap.size 6 s.size s.size s C 5 Tryd.underlying90 (by kernel_rfl) hg10 (Nat.le_refl _) (by rw [← Array.length_toList, HC.out]; simp; omega)
    obtain ⟨Y, hY⟩ : ∃ Y, Y = (C.toList.take 6 ++ Lib.byteCells s.data.toList ++ C.toList.drop (6 + s.size)).toArray := ⟨_, rfl⟩
    rw [← hY] at hcp
    have hYl : Y.toList = [Value.int .u8 1, .int .u8 H, .int .u8 R, .int .u8 F, .int .u8 ((V + 1)), .int .u8 s.size] ++ Lib.byteCells s.data.toList := by
      rw [hY, HC.out, List.toList_toArray, List.drop_of_length_le (by simp; omega)]
      simp
    obtain ⟨W11, hW11⟩ : ∃ W, W = W10.drew.setRow w1.heap.size Y := ⟨_, rfl⟩
    rw [← hW11] at hcp
    have hg11 : W11.heap[w1.heap.size]? = some (.cells Y 5 (0, 0)) := by rw [hW11]; exact setRow_heap _ _ C _ 5 (0, 0) hg10
    have hcv := conv_row W11 w1.heap.size Y 1 H R F ((V + 1)) s hg11 hYl
    have hB11 : Hid (Below w.heap.size W10.drew W11) := by
      rw [hW11]
      exact ⟨rfl, rfl, rfl, by simp, fun k hk => setRow_other _ _ _ _ (by omega)⟩
    clear hW11 hY hYl hg11
    go_region
    go_wp2
    go_ret2
    exact ⟨rfl, HB10.out.drew.trans hB11.out⟩

end Go.Proofs.YtcfjhbcpjpgodaaDoor
