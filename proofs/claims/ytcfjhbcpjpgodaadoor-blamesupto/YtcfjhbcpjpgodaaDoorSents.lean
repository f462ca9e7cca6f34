/- Proved here: what the listed sentinels give a walk: twelve package-level variables that each hold a pointer to an errors.errorString, all of them different, and that this holds still in every later world in which nothing old has turned. -/
import Derived.Test.YtcfjhbcpjpgodaaDoorBase
import Derived.Stop.LaidErr
import Derived.Below
import Derived.LaidOnce
namespace Go.Proofs.YtcfjhbcpjpgodaaDoor
open Go.RowKit

/-- The variables gs hold pointers es, all different, each into a row of cells without a frozen range. -/
structure SentIn (tp : TypeId) (gs : List Nat) (es : List Addr) (w : World) : Prop where
  len : es.length = gs.length
  nodup : es.Nodup
  cell : ∀ (i g : Nat) (a : Addr), gs[i]? = some g → es[i]? = some a → w.cell? ⟨g, 0, none⟩ = some (.iface tp (.pointer (some a)))
  blk : ∀ a, a ∈ es → ∃ c t, w.heap[a.block]? = some (.cells c t (0, 0))

theorem SentIn.later {tp : TypeId} {gs : List Nat} {es : List Addr} {w w' : World} (h : SentIn tp gs es w) (hb : Below w.heap.size w w') : SentIn tp gs es w' := by
  refine ⟨h.len, h.nodup, fun i g a hg ha => ?_, fun a ha => ?_⟩
  · have hc := h.cell i g a hg ha
    rw [hb.cell (p := ⟨g, 0, none⟩) (World.block_lt_of_cell? _ _ hc)]
    exact hc
  · obtain ⟨c, t, hc⟩ := h.blk a ha
    refine ⟨c, t, ?_⟩
    have hlt : a.block < w.heap.size := by
      rcases Nat.lt_or_ge a.block w.heap.size with h' | h'
      · exact h'
      · simp [Array.getElem?_eq_none h'] at hc
    rw [hb.block _ hlt]
    exact hc

theorem sents_of_vars {P : Program} {nm : String} {W : World} {ti tp te ts : TypeId} {ms : Array (String × TypeId)} {f : Field}
    (hi : P.underlying ti = some (.interface ms)) (hrow : ∀ u, P.typeName? 3 u = some nm → u = tp)
    (hp : P.underlying tp = some (.pointer te)) (he : P.underlying te = some (.struct #[f])) (hft : f.type = ts) (hfo : f.offset = 0) (hs : P.underlying ts = some .string) (hc : P.cellsOf te = 1) (hcs : P.cellsOf ts = 1)
    (r : List (String × DataW Unit)) :
    ∀ (ls : List (String × List UInt8)) (gs : List Nat) (ps : List MemPlace), ls.map (fun x => P.globalNamed x.1) = gs.map some → (∀ g, g ∈ gs → (P.globals[g]?).map (·.type) = some ti) →
      DataW.LaidVars P W (ls.map (fun x => (x.1, .iface nm (.ptr (.agg [.lit (.string x.2)])))) ++ r) ps →
      (∀ b off, MemPlace.cell b off ∈ ps → (∃ c t, W.heap[b]? = some (.cells c t (0, 0))) ∧ ∀ u v, W.cell? ⟨b, off, none⟩ = some (.iface u v) → Value.okWide P W .any 0 u v) →
      ∃ es : List Addr, es.length = gs.length ∧ (es.map fun a => MemPlace.cell a.block a.off).Sublist ps ∧
        (∀ (i g : Nat) (a : Addr), gs[i]? = some g → es[i]? = some a → W.cell? ⟨g, 0, none⟩ = some (.iface tp (.pointer (some a)))) ∧ ∀ a, a ∈ es → ∃ c t, W.heap[a.block]? = some (.cells c t (0, 0)) := by
  intro ls
  induction ls with
  | nil =>
    intro gs ps hg _ _ _
    cases gs with
    | nil => exact ⟨[], rfl, by simp, by simp, by simp⟩
    | cons g gs => simp at hg
  | cons x ls ih =>
    intro gs ps hg ht hv hrows
    cases gs with
    | nil => simp at hg
    | cons g gs =>
      simp only [List.map_cons, List.cons.injEq] at hg
      obtain ⟨hg0, hgs⟩ := hg
      obtain ⟨g0, t0, cs0, f0, p0, q0, hg0', ht0', hv0, hd0, hq, e0⟩ := hv
      obtain rfl := Option.some.inj (hg0.symm.trans hg0')
      have ht0 := ht g (by simp)
      obtain rfl := Option.some.inj (ht0.symm.trans ht0')
      subst e0
      obtain ⟨l0⟩ := cs0
      have ok0 : ∀ u v, l0 = [.iface u v] → Value.okWide P W .any 0 u v := fun u v e => by
        subst e
        exact (hrows g 0 (by simp [MemPlace.row])).2 u v (by simpa using World.var?_cell hg0' hv0 0)
      obtain ⟨a0, s0, rfl, hc0, hs0, hz0, rfl⟩ := errorString_of_trod hi hrow hp he hft hfo hs hc hcs hd0 ok0
      obtain ⟨es, hlen, hsub, hcell, hblk⟩ := ih gs q0 hgs (fun g hm => ht g (by simp [hm])) hq (fun b off hm => hrows b off (by simp [hm]))
      refine ⟨a0 :: es, by simp [hlen], ?_, ?_, ?_⟩
      · have e1 : MemPlace.row a0 1 = [MemPlace.cell a0.block a0.off] := by simp [MemPlace.row]
        rw [e1]
        simp only [List.map_cons, List.append_assoc, List.singleton_append]
        exact (List.Sublist.cons_cons _ hsub).trans (List.sublist_append_right _ _)
      · intro i g' a hi' ha
        cases i with
        | zero =>
          simp only [List.getElem?_cons_zero, Option.some.injEq] at hi' ha
          subst hi'; subst ha
          simpa using World.var?_cell hg0' hv0 0
        | succ i => exact hcell i g' a (by simpa using hi') (by simpa using ha)
      · intro a ha
        rcases List.mem_cons.1 ha with rfl | ha
        · exact (hrows a.block a.off (by simp [MemPlace.row])).1
        · exact hblk a ha

theorem sents_of_laid {P : Program} {nm : String} {W : World} {ti tp te ts : TypeId} {ms : Array (String × TypeId)} {f : Field}
    (hi : P.underlying ti = some (.interface ms)) (hrow : ∀ u, P.typeName? 3 u = some nm → u = tp)
    (hp : P.underlying tp = some (.pointer te)) (he : P.underlying te = some (.struct #[f])) (hft : f.type = ts) (hfo : f.offset = 0) (hs : P.underlying ts = some .string) (hc : P.cellsOf te = 1) (hcs : P.cellsOf ts = 1)
    (r : List (String × DataW Unit)) (ls : List (String × List UInt8)) (gs : List Nat) (hg : ls.map (fun x => P.globalNamed x.1) = gs.map some) (ht : ∀ g, g ∈ gs → (P.globals[g]?).map (·.type) = some ti)
    (h : laidMet P (ls.map (fun x => (x.1, .iface nm (.ptr (.agg [.lit (.string x.2)])))) ++ r) W) : ∃ es, SentIn tp gs es W := by
  obtain ⟨ps, hv, hnd, hrows⟩ := h
  obtain ⟨es, hlen, hsub, hcell, hblk⟩ := sents_of_vars hi hrow hp he hft hfo hs hc hcs r ls gs ps hg ht hv hrows
  refine ⟨es, hlen, ?_, hcell, hblk⟩
  have h1 := List.Nodup.sublist hsub hnd
  rw [List.Nodup, List.pairwise_map] at h1
  exact h1.imp fun hne e => hne (by rw [e])

theorem Tryd.star : "*" ++ "errors.errorString" = "*errors.errorString" := by decide
theorem Tryd.rowE (u : TypeId) (h : Tryd.prog.typeName? 3 u = some "*errors.errorString") : u = 188 :=
  typeName_ptr_named (nm := "errors.errorString") (by rw [Tryd.star]; kernel_rfl) (by kernel_rfl) (by decide) u (by rw [Tryd.star]; exact h)
theorem Tryd.cellsE : Tryd.prog.cellsOf 207 = 1 := by kernel_rfl
theorem Tryd.cellsS : Tryd.prog.cellsOf 9 = 1 := by kernel_rfl

/-- The names and texts of the sentinels, in the order of package api. -/
def sentNames : List (String × List UInt8) := [("synod/api.ErrArg", [119, 104, 97, 116, 32, 109, 97, 121, 32, 110, 111, 116, 32, 98, 101]), ("synod/api.ErrForm", [110, 111, 32, 102, 114, 97, 109, 101]), ("synod/api.ErrSeal", [110, 111, 116, 32, 115, 105, 103, 110, 101, 100, 32, 98, 121, 32, 105, 116, 115, 32, 115, 101, 110, 100, 101, 114]), ("synod/api.ErrPast", [111, 102, 32, 97, 32, 104, 101, 105, 103, 104, 116, 32, 116, 104, 97, 116, 32, 105, 115, 32, 100, 101, 99, 105, 100, 101, 100]), ("synod/api.ErrFar", [111, 102, 32, 97, 32, 104, 101, 105, 103, 104, 116, 32, 111, 114, 32, 114, 111, 117, 110, 100, 32, 116, 111, 111, 32, 102, 97, 114, 32, 97, 119, 97, 121]), ("synod/api.ErrOutsider", [102, 114, 111, 109, 32, 111, 110, 101, 32, 119, 104, 111, 32, 104, 97, 115, 32, 110, 111, 32, 115, 97, 121, 32, 105, 110, 32, 116, 104, 105, 115]), ("synod/api.ErrKnown", [107, 110, 111, 119, 110, 32, 97, 108, 114, 101, 97, 100, 121]), ("synod/api.ErrMany", [109, 111, 114, 101, 32, 116, 104, 97, 110, 32, 111, 110, 101, 32, 109, 97, 121, 32, 115, 97, 121]), ("synod/api.ErrFull", [109, 111, 114, 101, 32, 116, 104, 97, 110, 32, 109, 97, 121, 32, 119, 97, 105, 116]), ("synod/api.ErrCert", [110, 111, 32, 99, 101, 114, 116, 105, 102, 105, 99, 97, 116, 101]), ("synod/api.ErrNone", [110, 111, 116, 104, 105, 110, 103, 32, 116, 104, 101, 114, 101]), ("synod/api.ErrRecord", [110, 111, 32, 103, 111, 111, 100, 32, 114, 101, 99, 111, 114, 100, 32, 111, 114, 32, 98, 108, 111, 99, 107])]
def sentGs : List Nat := [0, 1, 2, 3, 4, 5, 6, 7, 8, 9, 10, 11]
theorem Tryd.sentG : sentNames.map (fun x => Tryd.prog.globalNamed x.1) = sentGs.map some := by kernel_rfl
theorem Tryd.sentT (g : Nat) (h : g ∈ sentGs) : (Tryd.prog.globals[g]?).map (·.type) = some 23 := by
  have ha : (sentGs.all fun g => (Tryd.prog.globals[g]?).map (·.type) == some 23) = true := by kernel_rfl
  simpa using List.all_eq_true.1 ha g h

/-- The twelve sentinels of package api, by their pointers. -/
def Sent (es : List Addr) (w : World) : Prop := SentIn 188 sentGs es w

theorem Sent.later {es : List Addr} {w w' : World} (h : Sent es w) (hb : Below w.heap.size w w') : Sent es w' := SentIn.later h hb

theorem sent_of_laid (r : List (String × DataW Unit)) {W : World} (h : laidMet Tryd.prog (sentNames.map (fun x => (x.1, .iface "*errors.errorString" (.ptr (.agg [.lit (.string x.2)])))) ++ r) W) : ∃ es, Sent es W :=
  sents_of_laid Tryd.underlying23 Tryd.rowE Tryd.underlying188 Tryd.underlying207 rfl rfl Tryd.underlying9 Tryd.cellsE Tryd.cellsS r sentNames sentGs Tryd.sentG Tryd.sentT h

end Go.Proofs.YtcfjhbcpjpgodaaDoor
