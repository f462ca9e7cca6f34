/- Proved here: what the program's readRecord answers at every text. -/
import Derived.Test.YtcfjhbcpjpgodaaDoorProgTotal
namespace Go.Proofs.YtcfjhbcpjpgodaaDoor
open Go.RowKit

theorem place_in (c a b : Int) (w : World) (ha : 0 ≤ a) (hb : b ≤ 255) (h : a ≤ c ∧ c ≤ b) :
    Calls Tryd.prog 71 #[.int .u8 c, .int .u8 a, .int .u8 b] w fun e w' => e = .returned (.tuple #[.int .i64 (c - a), .bool true]) ∧ w' = w := by
  have h1 := place_any c a b w ha hb
  rw [if_pos h, decide_eq_true h] at h1
  exact h1
theorem place_out (c a b : Int) (w : World) (ha : 0 ≤ a) (hb : b ≤ 255) (h : ¬ (a ≤ c ∧ c ≤ b)) :
    Calls Tryd.prog 71 #[.int .u8 c, .int .u8 a, .int .u8 b] w fun e w' => e = .returned (.tuple #[.int .i64 0, .bool false]) ∧ w' = w := by
  have h1 := place_any c a b w ha hb
  rw [if_neg h, decide_eq_false h] at h1
  exact h1

/-- A struct and one value more as a call's results. -/
theorem results_row2 {P : Program} {fn : Func} {p q : Tmp} {ty : TypeId} (h : fn.results = #[.cell p ty, .tmp q]) (tmps : Array Value) (w : World) (g : Nat) (t : TypeId) (cs : Array Value) (d : TypeDesc) (v : Value)
    (hp : tmps.getD p undef = .pointer (some ⟨g, 0, none⟩)) (hq : tmps.getD q undef = v) (hg : w.heap[g]? = some (.cells cs t (0, 0)))
    (hu : P.underlying ty = some d) (hd : d.isRow = true) (hi : (P.info? ty).map (·.size) = some cs.size) :
    (results fn tmps).run P w = .ok (.tuple #[.agg cs, v]) w := by
  have hp' : tmps[p]?.getD undef = .pointer (some ⟨g, 0, none⟩) := by simpa using hp
  have hq' : tmps[q]?.getD undef = v := by simpa using hq
  simp [results, h, hp', hq', asAddr, run_loadVar_row w g t ty cs (0, 0) d hg hu (by cases d <;> simp_all) hi]

theorem Tryd.sizeRecord : (Tryd.prog.info? 125).map (·.size) = some 3 := by kernel_rfl

/-- Whom or what a record speaks of, and its number. -/
def idxN (c0 c1 : Int) : Int := if c0 = 118 then c1 - 48 else c1 - 97
def numN (c0 c2 : Int) : Int := if c0 = 108 then 0 else c2 - 48

/-- What readRecord leaves. -/
def ReadP (n : Nat) (c0 c1 c2 : Int) (w : World) (e : Ending) (w' : World) : Prop :=
  (∃ a b c, e = .returned (.tuple #[.agg #[.int .u8 a, .int .i64 b, .int .i64 c], .bool (formN n c0 c1 c2)]) ∧ (formN n c0 c1 c2 = true → a = c0 ∧ b = idxN c0 c1 ∧ c = numN c0 c2)) ∧ Below w.heap.size w w'

theorem ReadP.yes {n : Nat} {c0 c1 c2 a b c : Int} {w w' : World} (hf : formN n c0 c1 c2 = true) (ha : a = c0) (hb : b = idxN c0 c1) (hc : c = numN c0 c2) (hw : Below w.heap.size w w') : ReadP n c0 c1 c2 w (.returned (.tuple #[.agg #[.int .u8 a, .int .i64 b, .int .i64 c], .bool true])) w' :=
  ⟨⟨a, b, c, by rw [hf], fun _ => ⟨ha, hb, hc⟩⟩, hw⟩
theorem ReadP.no {n : Nat} {c0 c1 c2 a b c : Int} {w w' : World} (hf : formN n c0 c1 c2 = false) (hw : Below w.heap.size w w') : ReadP n c0 c1 c2 w (.returned (.tuple #[.agg #[.int .u8 a, .int .i64 b, .int .i64 c], .bool false])) w' :=
  ⟨⟨a, b, c, by rw [hf], fun h => by rw [hf] at h; cases h⟩, hw⟩

set_option maxRecDepth 100000 in
set_option maxHeartbeats 800000 in
theorem read_size (t : ByteArray) (w : World) (h : t.size < 2 ∨ 3 < t.size) (c0 c1 c2 : Int) :
    Calls Tryd.prog 60 #[.string t] w (ReadP t.size c0 c1 c2 w) := by
  have HF : Hid (formN t.size c0 c1 c2 = false) := decide_eq_false (by omega)
  have z3 : ((t.size : Int) == 2) = false := by simp; omega
  have z4 : ((t.size : Int) == 3) = false := by simp; omega
  clear h
  go_enter Tryd.func60, Tryd.ntmps60
  go_wp2_with (refine wpList_store_rowG rfl 125 _ _ rfl w.heap.size #[.int .u8 0, .int .i64 0, .int .i64 0] rfl rfl 125 #[.int .u8 0, .int .i64 0, .int .i64 0] (heap_alloc_new w _) rfl (by simp [Value.oneCell']) Tryd.sizeRecord ?_; intro w5 hq ho)
  exact bodyPost_ret (v := .tuple #[.agg #[.int .u8 0, .int .i64 0, .int .i64 0], .bool false]) (results_row2 Tryd.results60 _ _ w.heap.size 125 _ _ _ rfl rfl hq Tryd.underlying125 rfl Tryd.sizeRecord) rfl (ReadP.no HF.out (((Below.refl _ w).alloc (Nat.le_refl _) _).trans (ho.below (Nat.le_refl _))))

set_option maxRecDepth 100000 in
set_option maxHeartbeats 800000 in
theorem read_two (t : ByteArray) (c0 c1 c2 : Int) (w : World) (hz : t.size = 2) (b0 : 0 ≤ c0 ∧ c0 ≤ 255) (b1 : 0 ≤ c1 ∧ c1 ≤ 255) (b2 : 0 ≤ c2 ∧ c2 ≤ 255) (a0 : ∀ W : World, (Instr.index 9 (.string t) (.int .i64 0)).run Tryd.prog W = .ok (.int .u8 c0) W) (a1 : ∀ W : World, (Instr.index 9 (.string t) (.int .i64 1)).run Tryd.prog W = .ok (.int .u8 c1) W) :
    Calls Tryd.prog 60 #[.string t] w (ReadP 2 c0 c1 c2 w) := by
  have z3 : ((t.size : Int) == 2) = true := by simp; omega
  have z4 : ((t.size : Int) == 3) = false := by simp; omega
  clear hz
  by_cases k : c0 = 108
  · subst k
    by_cases l1 : 97 ≤ c1 ∧ c1 ≤ 122
    · have HF : Hid (formN 2 108 c1 c2 = true) := decide_eq_true (by omega)
      have HP1 : Hid (∀ W : World, Calls Tryd.prog 71 #[.int .u8 c1, .int .u8 97, .int .u8 122] W fun e w' => e = .returned (.tuple #[.int .i64 (c1 - 97), .bool true]) ∧ w' = W) := fun W => place_in _ _ _ W (by decide) (by decide) l1
      clear l1 b2
      go_enter Tryd.func60, Tryd.ntmps60
      go_wp2_with fail
      refine (HP1.out _).mono ?_
      rintro e w1 ⟨rfl, hw1⟩
      have hw2 := hw1.symm
      clear hw1
      subst hw2
      go_wp2_with (refine wpList_store_rowG rfl 125 _ _ rfl w.heap.size #[.int .u8 108, .int .i64 (c1 - 97), .int .i64 0] rfl rfl 125 #[.int .u8 0, .int .i64 0, .int .i64 0] (heap_alloc_new w _) rfl (by simp [Value.oneCell']) Tryd.sizeRecord ?_; intro w5 hq ho)
      exact bodyPost_ret (v := .tuple #[.agg #[.int .u8 108, .int .i64 (c1 - 97), .int .i64 0], .bool true]) (results_row2 Tryd.results60 _ _ w.heap.size 125 _ _ _ rfl rfl hq Tryd.underlying125 rfl Tryd.sizeRecord) rfl (ReadP.yes HF.out (by simp) (by simp [idxN]) (by simp [numN]) (((Below.refl _ w).alloc (Nat.le_refl _) _).trans (ho.below (Nat.le_refl _))))
    · have HF : Hid (formN 2 108 c1 c2 = false) := decide_eq_false (by omega)
      have HP1 : Hid (∀ W : World, Calls Tryd.prog 71 #[.int .u8 c1, .int .u8 97, .int .u8 122] W fun e w' => e = .returned (.tuple #[.int .i64 0, .bool false]) ∧ w' = W) := fun W => place_out _ _ _ W (by decide) (by decide) l1
      clear l1 b2
      go_enter Tryd.func60, Tryd.ntmps60
      go_wp2_with fail
      refine (HP1.out _).mono ?_
      rintro e w1 ⟨rfl, hw1⟩
      have hw2 := hw1.symm
      clear hw1
      subst hw2
      go_wp2_with (refine wpList_store_rowG rfl 125 _ _ rfl w.heap.size #[.int .u8 108, .int .i64 0, .int .i64 0] rfl rfl 125 #[.int .u8 0, .int .i64 0, .int .i64 0] (heap_alloc_new w _) rfl (by simp [Value.oneCell']) Tryd.sizeRecord ?_; intro w5 hq ho)
      exact bodyPost_ret (v := .tuple #[.agg #[.int .u8 108, .int .i64 0, .int .i64 0], .bool false]) (results_row2 Tryd.results60 _ _ w.heap.size 125 _ _ _ rfl rfl hq Tryd.underlying125 rfl Tryd.sizeRecord) rfl (ReadP.no HF.out (((Below.refl _ w).alloc (Nat.le_refl _) _).trans (ho.below (Nat.le_refl _))))
  · have HF : Hid (formN 2 c0 c1 c2 = false) := decide_eq_false (by omega)
    have j1 : (c0 == 108) = false := by simpa using k
    clear k
    go_enter Tryd.func60, Tryd.ntmps60
    go_wp2_with (refine wpList_store_rowG rfl 125 _ _ rfl w.heap.size #[.int .u8 0, .int .i64 0, .int .i64 0] rfl rfl 125 #[.int .u8 0, .int .i64 0, .int .i64 0] (heap_alloc_new w _) rfl (by simp [Value.oneCell']) Tryd.sizeRecord ?_; intro w5 hq ho)
    exact bodyPost_ret (v := .tuple #[.agg #[.int .u8 0, .int .i64 0, .int .i64 0], .bool false]) (results_row2 Tryd.results60 _ _ w.heap.size 125 _ _ _ rfl rfl hq Tryd.underlying125 rfl Tryd.sizeRecord) rfl (ReadP.no HF.out (((Below.refl _ w).alloc (Nat.le_refl _) _).trans (ho.below (Nat.le_refl _))))

set_option maxRecDepth 100000 in
set_option maxHeartbeats 800000 in
theorem read_three_j (t : ByteArray) (c1 c2 : Int) (w : World) (hz : t.size = 3) (b1 : 0 ≤ c1 ∧ c1 ≤ 255) (b2 : 0 ≤ c2 ∧ c2 ≤ 255) (a0 : ∀ W : World, (Instr.index 9 (.string t) (.int .i64 0)).run Tryd.prog W = .ok (.int .u8 106) W) (a1 : ∀ W : World, (Instr.index 9 (.string t) (.int .i64 1)).run Tryd.prog W = .ok (.int .u8 c1) W) (a2 : ∀ W : World, (Instr.index 9 (.string t) (.int .i64 2)).run Tryd.prog W = .ok (.int .u8 c2) W) :
    Calls Tryd.prog 60 #[.string t] w (ReadP 3 106 c1 c2 w) := by
  have z3 : ((t.size : Int) == 2) = false := by simp; omega
  have z4 : ((t.size : Int) == 3) = true := by simp; omega
  clear hz
  by_cases l1 : 97 ≤ c1 ∧ c1 ≤ 122
  · have HP1 : Hid (∀ W : World, Calls Tryd.prog 71 #[.int .u8 c1, .int .u8 97, .int .u8 122] W fun e w' => e = .returned (.tuple #[.int .i64 (c1 - 97), .bool true]) ∧ w' = W) := fun W => place_in _ _ _ W (by decide) (by decide) l1
    by_cases d2 : 48 ≤ c2 ∧ c2 ≤ 57
    · have HP2 : Hid (∀ W : World, Calls Tryd.prog 71 #[.int .u8 c2, .int .u8 48, .int .u8 57] W fun e w' => e = .returned (.tuple #[.int .i64 (c2 - 48), .bool true]) ∧ w' = W) := fun W => place_in _ _ _ W (by decide) (by decide) d2
      by_cases d3 : 48 < c2
      · have HF : Hid (formN 3 106 c1 c2 = true) := decide_eq_true (by omega)
        clear l1 d2
        go_enter Tryd.func60, Tryd.ntmps60
        go_wp2_with fail
        refine (HP1.out _).mono ?_
        rintro e w1 ⟨rfl, hw1⟩
        have hw2 := hw1.symm
        clear hw1
        subst hw2
        go_wp2_with fail
        refine (HP2.out _).mono ?_
        rintro e w1 ⟨rfl, hw1⟩
        have hw2 := hw1.symm
        clear hw1
        subst hw2
        go_wp2_with (refine wpList_store_rowG rfl 125 _ _ rfl w.heap.size #[.int .u8 106, .int .i64 (c1 - 97), .int .i64 (c2 - 48)] rfl rfl 125 #[.int .u8 0, .int .i64 0, .int .i64 0] (heap_alloc_new w _) rfl (by simp [Value.oneCell']) Tryd.sizeRecord ?_; intro w5 hq ho)
        exact bodyPost_ret (v := .tuple #[.agg #[.int .u8 106, .int .i64 (c1 - 97), .int .i64 (c2 - 48)], .bool true]) (results_row2 Tryd.results60 _ _ w.heap.size 125 _ _ _ rfl rfl hq Tryd.underlying125 rfl Tryd.sizeRecord) rfl (ReadP.yes HF.out (by simp) (by simp [idxN]) (by simp [numN]) (((Below.refl _ w).alloc (Nat.le_refl _) _).trans (ho.below (Nat.le_refl _))))
      · have HF : Hid (formN 3 106 c1 c2 = false) := decide_eq_false (by omega)
        have d4 : decide (48 < c2) = false := decide_eq_false d3
        clear l1 d2 d3
        go_enter Tryd.func60, Tryd.ntmps60
        go_wp2_with fail
        refine (HP1.out _).mono ?_
        rintro e w1 ⟨rfl, hw1⟩
        have hw2 := hw1.symm
        clear hw1
        subst hw2
        go_wp2_with fail
        refine (HP2.out _).mono ?_
        rintro e w1 ⟨rfl, hw1⟩
        have hw2 := hw1.symm
        clear hw1
        subst hw2
        go_wp2_with (refine wpList_store_rowG rfl 125 _ _ rfl w.heap.size #[.int .u8 106, .int .i64 (c1 - 97), .int .i64 (c2 - 48)] rfl rfl 125 #[.int .u8 0, .int .i64 0, .int .i64 0] (heap_alloc_new w _) rfl (by simp [Value.oneCell']) Tryd.sizeRecord ?_; intro w5 hq ho)
        exact bodyPost_ret (v := .tuple #[.agg #[.int .u8 106, .int .i64 (c1 - 97), .int .i64 (c2 - 48)], .bool false]) (results_row2 Tryd.results60 _ _ w.heap.size 125 _ _ _ rfl rfl hq Tryd.underlying125 rfl Tryd.sizeRecord) rfl (ReadP.no HF.out (((Below.refl _ w).alloc (Nat.le_refl _) _).trans (ho.below (Nat.le_refl _))))
    · have HP2 : Hid (∀ W : World, Calls Tryd.prog 71 #[.int .u8 c2, .int .u8 48, .int .u8 57] W fun e w' => e = .returned (.tuple #[.int .i64 0, .bool false]) ∧ w' = W) := fun W => place_out _ _ _ W (by decide) (by decide) d2
      have HF : Hid (formN 3 106 c1 c2 = false) := decide_eq_false (by omega)
      clear l1 d2
      go_enter Tryd.func60, Tryd.ntmps60
      go_wp2_with fail
      refine (HP1.out _).mono ?_
      rintro e w1 ⟨rfl, hw1⟩
      have hw2 := hw1.symm
      clear hw1
      subst hw2
      go_wp2_with fail
      refine (HP2.out _).mono ?_
      rintro e w1 ⟨rfl, hw1⟩
      have hw2 := hw1.symm
      clear hw1
      subst hw2
      go_wp2_with (refine wpList_store_rowG rfl 125 _ _ rfl w.heap.size #[.int .u8 106, .int .i64 (c1 - 97), .int .i64 0] rfl rfl 125 #[.int .u8 0, .int .i64 0, .int .i64 0] (heap_alloc_new w _) rfl (by simp [Value.oneCell']) Tryd.sizeRecord ?_; intro w5 hq ho)
      exact bodyPost_ret (v := .tuple #[.agg #[.int .u8 106, .int .i64 (c1 - 97), .int .i64 0], .bool false]) (results_row2 Tryd.results60 _ _ w.heap.size 125 _ _ _ rfl rfl hq Tryd.underlying125 rfl Tryd.sizeRecord) rfl (ReadP.no HF.out (((Below.refl _ w).alloc (Nat.le_refl _) _).trans (ho.below (Nat.le_refl _))))
  · have HP1 : Hid (∀ W : World, Calls Tryd.prog 71 #[.int .u8 c1, .int .u8 97, .int .u8 122] W fun e w' => e = .returned (.tuple #[.int .i64 0, .bool false]) ∧ w' = W) := fun W => place_out _ _ _ W (by decide) (by decide) l1
    have HF : Hid (formN 3 106 c1 c2 = false) := decide_eq_false (by omega)
    clear l1
    by_cases d2 : 48 ≤ c2 ∧ c2 ≤ 57
    · have HP2 : Hid (∀ W : World, Calls Tryd.prog 71 #[.int .u8 c2, .int .u8 48, .int .u8 57] W fun e w' => e = .returned (.tuple #[.int .i64 (c2 - 48), .bool true]) ∧ w' = W) := fun W => place_in _ _ _ W (by decide) (by decide) d2
      clear d2
      go_enter Tryd.func60, Tryd.ntmps60
      go_wp2_with fail
      refine (HP1.out _).mono ?_
      rintro e w1 ⟨rfl, hw1⟩
      have hw2 := hw1.symm
      clear hw1
      subst hw2
      go_wp2_with fail
      refine (HP2.out _).mono ?_
      rintro e w1 ⟨rfl, hw1⟩
      have hw2 := hw1.symm
      clear hw1
      subst hw2
      go_wp2_with (refine wpList_store_rowG rfl 125 _ _ rfl w.heap.size #[.int .u8 106, .int .i64 0, .int .i64 (c2 - 48)] rfl rfl 125 #[.int .u8 0, .int .i64 0, .int .i64 0] (heap_alloc_new w _) rfl (by simp [Value.oneCell']) Tryd.sizeRecord ?_; intro w5 hq ho)
      exact bodyPost_ret (v := .tuple #[.agg #[.int .u8 106, .int .i64 0, .int .i64 (c2 - 48)], .bool false]) (results_row2 Tryd.results60 _ _ w.heap.size 125 _ _ _ rfl rfl hq Tryd.underlying125 rfl Tryd.sizeRecord) rfl (ReadP.no HF.out (((Below.refl _ w).alloc (Nat.le_refl _) _).trans (ho.below (Nat.le_refl _))))
    · have HP2 : Hid (∀ W : World, Calls Tryd.prog 71 #[.int .u8 c2, .int .u8 48, .int .u8 57] W fun e w' => e = .returned (.tuple #[.int .i64 0, .bool false]) ∧ w' = W) := fun W => place_out _ _ _ W (by decide) (by decide) d2
      clear d2
      go_enter Tryd.func60, Tryd.ntmps60
      go_wp2_with fail
      refine (HP1.out _).mono ?_
      rintro e w1 ⟨rfl, hw1⟩
      have hw2 := hw1.symm
      clear hw1
      subst hw2
      go_wp2_with fail
      refine (HP2.out _).mono ?_
      rintro e w1 ⟨rfl, hw1⟩
      have hw2 := hw1.symm
      clear hw1
      subst hw2
      go_wp2_with (refine wpList_store_rowG rfl 125 _ _ rfl w.heap.size #[.int .u8 106, .int .i64 0, .int .i64 0] rfl rfl 125 #[.int .u8 0, .int .i64 0, .int .i64 0] (heap_alloc_new w _) rfl (by simp [Value.oneCell']) Tryd.sizeRecord ?_; intro w5 hq ho)
      exact bodyPost_ret (v := .tuple #[.agg #[.int .u8 106, .int .i64 0, .int .i64 0], .bool false]) (results_row2 Tryd.results60 _ _ w.heap.size 125 _ _ _ rfl rfl hq Tryd.underlying125 rfl Tryd.sizeRecord) rfl (ReadP.no HF.out (((Below.refl _ w).alloc (Nat.le_refl _) _).trans (ho.below (Nat.le_refl _))))

set_option maxRecDepth 100000 in
set_option maxHeartbeats 800000 in
theorem read_three_r (t : ByteArray) (c1 c2 : Int) (w : World) (hz : t.size = 3) (b1 : 0 ≤ c1 ∧ c1 ≤ 255) (b2 : 0 ≤ c2 ∧ c2 ≤ 255) (a0 : ∀ W : World, (Instr.index 9 (.string t) (.int .i64 0)).run Tryd.prog W = .ok (.int .u8 114) W) (a1 : ∀ W : World, (Instr.index 9 (.string t) (.int .i64 1)).run Tryd.prog W = .ok (.int .u8 c1) W) (a2 : ∀ W : World, (Instr.index 9 (.string t) (.int .i64 2)).run Tryd.prog W = .ok (.int .u8 c2) W) :
    Calls Tryd.prog 60 #[.string t] w (ReadP 3 114 c1 c2 w) := by
  have z3 : ((t.size : Int) == 2) = false := by simp; omega
  have z4 : ((t.size : Int) == 3) = true := by simp; omega
  clear hz
  by_cases l1 : 97 ≤ c1 ∧ c1 ≤ 122
  · have HP1 : Hid (∀ W : World, Calls Tryd.prog 71 #[.int .u8 c1, .int .u8 97, .int .u8 122] W fun e w' => e = .returned (.tuple #[.int .i64 (c1 - 97), .bool true]) ∧ w' = W) := fun W => place_in _ _ _ W (by decide) (by decide) l1
    by_cases d2 : 48 ≤ c2 ∧ c2 ≤ 57
    · have HP2 : Hid (∀ W : World, Calls Tryd.prog 71 #[.int .u8 c2, .int .u8 48, .int .u8 57] W fun e w' => e = .returned (.tuple #[.int .i64 (c2 - 48), .bool true]) ∧ w' = W) := fun W => place_in _ _ _ W (by decide) (by decide) d2
      by_cases d3 : 48 < c2
      · have HF : Hid (formN 3 114 c1 c2 = true) := decide_eq_true (by omega)
        clear l1 d2
        go_enter Tryd.func60, Tryd.ntmps60
        go_wp2_with fail
        refine (HP1.out _).mono ?_
        rintro e w1 ⟨rfl, hw1⟩
        have hw2 := hw1.symm
        clear hw1
        subst hw2
        go_wp2_with fail
        refine (HP2.out _).mono ?_
        rintro e w1 ⟨rfl, hw1⟩
        have hw2 := hw1.symm
        clear hw1
        subst hw2
        go_wp2_with (refine wpList_store_rowG rfl 125 _ _ rfl w.heap.size #[.int .u8 114, .int .i64 (c1 - 97), .int .i64 (c2 - 48)] rfl rfl 125 #[.int .u8 0, .int .i64 0, .int .i64 0] (heap_alloc_new w _) rfl (by simp [Value.oneCell']) Tryd.sizeRecord ?_; intro w5 hq ho)
        exact bodyPost_ret (v := .tuple #[.agg #[.int .u8 114, .int .i64 (c1 - 97), .int .i64 (c2 - 48)], .bool true]) (results_row2 Tryd.results60 _ _ w.heap.size 125 _ _ _ rfl rfl hq Tryd.underlying125 rfl Tryd.sizeRecord) rfl (ReadP.yes HF.out (by simp) (by simp [idxN]) (by simp [numN]) (((Below.refl _ w).alloc (Nat.le_refl _) _).trans (ho.below (Nat.le_refl _))))
      · have HF : Hid (formN 3 114 c1 c2 = false) := decide_eq_false (by omega)
        have d4 : decide (48 < c2) = false := decide_eq_false d3
        clear l1 d2 d3
        go_enter Tryd.func60, Tryd.ntmps60
        go_wp2_with fail
        refine (HP1.out _).mono ?_
        rintro e w1 ⟨rfl, hw1⟩
        have hw2 := hw1.symm
        clear hw1
        subst hw2
        go_wp2_with fail
        refine (HP2.out _).mono ?_
        rintro e w1 ⟨rfl, hw1⟩
        have hw2 := hw1.symm
        clear hw1
        subst hw2
        go_wp2_with (refine wpList_store_rowG rfl 125 _ _ rfl w.heap.size #[.int .u8 114, .int .i64 (c1 - 97), .int .i64 (c2 - 48)] rfl rfl 125 #[.int .u8 0, .int .i64 0, .int .i64 0] (heap_alloc_new w _) rfl (by simp [Value.oneCell']) Tryd.sizeRecord ?_; intro w5 hq ho)
        exact bodyPost_ret (v := .tuple #[.agg #[.int .u8 114, .int .i64 (c1 - 97), .int .i64 (c2 - 48)], .bool false]) (results_row2 Tryd.results60 _ _ w.heap.size 125 _ _ _ rfl rfl hq Tryd.underlying125 rfl Tryd.sizeRecord) rfl (ReadP.no HF.out (((Below.refl _ w).alloc (Nat.le_refl _) _).trans (ho.below (Nat.le_refl _))))
    · have HP2 : Hid (∀ W : World, Calls Tryd.prog 71 #[.int .u8 c2, .int .u8 48, .int .u8 57] W fun e w' => e = .returned (.tuple #[.int .i64 0, .bool false]) ∧ w' = W) := fun W => place_out _ _ _ W (by decide) (by decide) d2
      have HF : Hid (formN 3 114 c1 c2 = false) := decide_eq_false (by omega)
      clear l1 d2
      go_enter Tryd.func60, Tryd.ntmps60
      go_wp2_with fail
      refine (HP1.out _).mono ?_
      rintro e w1 ⟨rfl, hw1⟩
      have hw2 := hw1.symm
      clear hw1
      subst hw2
      go_wp2_with fail
      refine (HP2.out _).mono ?_
      rintro e w1 ⟨rfl, hw1⟩
      have hw2 := hw1.symm
      clear hw1
      subst hw2
      go_wp2_with (refine wpList_store_rowG rfl 125 _ _ rfl w.heap.size #[.int .u8 114, .int .i64 (c1 - 97), .int .i64 0] rfl rfl 125 #[.int .u8 0, .int .i64 0, .int .i64 0] (heap_alloc_new w _) rfl (by simp [Value.oneCell']) Tryd.sizeRecord ?_; intro w5 hq ho)
      exact bodyPost_ret (v := .tuple #[.agg #[.int .u8 114, .int .i64 (c1 - 97), .int .i64 0], .bool false]) (results_row2 Tryd.results60 _ _ w.heap.size 125 _ _ _ rfl rfl hq Tryd.underlying125 rfl Tryd.sizeRecord) rfl (ReadP.no HF.out (((Below.refl _ w).alloc (Nat.le_refl _) _).trans (ho.below (Nat.le_refl _))))
  · have HP1 : Hid (∀ W : World, Calls Tryd.prog 71 #[.int .u8 c1, .int .u8 97, .int .u8 122] W fun e w' => e = .returned (.tuple #[.int .i64 0, .bool false]) ∧ w' = W) := fun W => place_out _ _ _ W (by decide) (by decide) l1
    have HF : Hid (formN 3 114 c1 c2 = false) := decide_eq_false (by omega)
    clear l1
    by_cases d2 : 48 ≤ c2 ∧ c2 ≤ 57
    · have HP2 : Hid (∀ W : World, Calls Tryd.prog 71 #[.int .u8 c2, .int .u8 48, .int .u8 57] W fun e w' => e = .returned (.tuple #[.int .i64 (c2 - 48), .bool true]) ∧ w' = W) := fun W => place_in _ _ _ W (by decide) (by decide) d2
      clear d2
      go_enter Tryd.func60, Tryd.ntmps60
      go_wp2_with fail
      refine (HP1.out _).mono ?_
      rintro e w1 ⟨rfl, hw1⟩
      have hw2 := hw1.symm
      clear hw1
      subst hw2
      go_wp2_with fail
      refine (HP2.out _).mono ?_
      rintro e w1 ⟨rfl, hw1⟩
      have hw2 := hw1.symm
      clear hw1
      subst hw2
      go_wp2_with (refine wpList_store_rowG rfl 125 _ _ rfl w.heap.size #[.int .u8 114, .int .i64 0, .int .i64 (c2 - 48)] rfl rfl 125 #[.int .u8 0, .int .i64 0, .int .i64 0] (heap_alloc_new w _) rfl (by simp [Value.oneCell']) Tryd.sizeRecord ?_; intro w5 hq ho)
      exact bodyPost_ret (v := .tuple #[.agg #[.int .u8 114, .int .i64 0, .int .i64 (c2 - 48)], .bool false]) (results_row2 Tryd.results60 _ _ w.heap.size 125 _ _ _ rfl rfl hq Tryd.underlying125 rfl Tryd.sizeRecord) rfl (ReadP.no HF.out (((Below.refl _ w).alloc (Nat.le_refl _) _).trans (ho.below (Nat.le_refl _))))
    · have HP2 : Hid (∀ W : World, Calls Tryd.prog 71 #[.int .u8 c2, .int .u8 48, .int .u8 57] W fun e w' => e = .returned (.tuple #[.int .i64 0, .bool false]) ∧ w' = W) := fun W => place_out _ _ _ W (by decide) (by decide) d2
      clear d2
      go_enter Tryd.func60, Tryd.ntmps60
      go_wp2_with fail
      refine (HP1.out _).mono ?_
      rintro e w1 ⟨rfl, hw1⟩
      have hw2 := hw1.symm
      clear hw1
      subst hw2
      go_wp2_with fail
      refine (HP2.out _).mono ?_
      rintro e w1 ⟨rfl, hw1⟩
      have hw2 := hw1.symm
      clear hw1
      subst hw2
      go_wp2_with (refine wpList_store_rowG rfl 125 _ _ rfl w.heap.size #[.int .u8 114, .int .i64 0, .int .i64 0] rfl rfl 125 #[.int .u8 0, .int .i64 0, .int .i64 0] (heap_alloc_new w _) rfl (by simp [Value.oneCell']) Tryd.sizeRecord ?_; intro w5 hq ho)
      exact bodyPost_ret (v := .tuple #[.agg #[.int .u8 114, .int .i64 0, .int .i64 0], .bool false]) (results_row2 Tryd.results60 _ _ w.heap.size 125 _ _ _ rfl rfl hq Tryd.underlying125 rfl Tryd.sizeRecord) rfl (ReadP.no HF.out (((Below.refl _ w).alloc (Nat.le_refl _) _).trans (ho.below (Nat.le_refl _))))

set_option maxRecDepth 100000 in
set_option maxHeartbeats 800000 in
theorem read_three_v (t : ByteArray) (c1 c2 : Int) (w : World) (hz : t.size = 3) (b1 : 0 ≤ c1 ∧ c1 ≤ 255) (b2 : 0 ≤ c2 ∧ c2 ≤ 255) (a0 : ∀ W : World, (Instr.index 9 (.string t) (.int .i64 0)).run Tryd.prog W = .ok (.int .u8 118) W) (a1 : ∀ W : World, (Instr.index 9 (.string t) (.int .i64 1)).run Tryd.prog W = .ok (.int .u8 c1) W) (a2 : ∀ W : World, (Instr.index 9 (.string t) (.int .i64 2)).run Tryd.prog W = .ok (.int .u8 c2) W) :
    Calls Tryd.prog 60 #[.string t] w (ReadP 3 118 c1 c2 w) := by
  have z3 : ((t.size : Int) == 2) = false := by simp; omega
  have z4 : ((t.size : Int) == 3) = true := by simp; omega
  clear hz
  by_cases l1 : 48 ≤ c1 ∧ c1 ≤ 55
  · have HP1 : Hid (∀ W : World, Calls Tryd.prog 71 #[.int .u8 c1, .int .u8 48, .int .u8 55] W fun e w' => e = .returned (.tuple #[.int .i64 (c1 - 48), .bool true]) ∧ w' = W) := fun W => place_in _ _ _ W (by decide) (by decide) l1
    by_cases d2 : 48 ≤ c2 ∧ c2 ≤ 57
    · have HP2 : Hid (∀ W : World, Calls Tryd.prog 71 #[.int .u8 c2, .int .u8 48, .int .u8 57] W fun e w' => e = .returned (.tuple #[.int .i64 (c2 - 48), .bool true]) ∧ w' = W) := fun W => place_in _ _ _ W (by decide) (by decide) d2
      have HF : Hid (formN 3 118 c1 c2 = true) := decide_eq_true (by omega)
      clear l1 d2
      go_enter Tryd.func60, Tryd.ntmps60
      go_wp2_with fail
      refine (HP1.out _).mono ?_
      rintro e w1 ⟨rfl, hw1⟩
      have hw2 := hw1.symm
      clear hw1
      subst hw2
      go_wp2_with fail
      refine (HP2.out _).mono ?_
      rintro e w1 ⟨rfl, hw1⟩
      have hw2 := hw1.symm
      clear hw1
      subst hw2
      go_wp2_with (refine wpList_store_rowG rfl 125 _ _ rfl w.heap.size #[.int .u8 118, .int .i64 (c1 - 48), .int .i64 (c2 - 48)] rfl rfl 125 #[.int .u8 0, .int .i64 0, .int .i64 0] (heap_alloc_new w _) rfl (by simp [Value.oneCell']) Tryd.sizeRecord ?_; intro w5 hq ho)
      exact bodyPost_ret (v := .tuple #[.agg #[.int .u8 118, .int .i64 (c1 - 48), .int .i64 (c2 - 48)], .bool true]) (results_row2 Tryd.results60 _ _ w.heap.size 125 _ _ _ rfl rfl hq Tryd.underlying125 rfl Tryd.sizeRecord) rfl (ReadP.yes HF.out (by simp) (by simp [idxN]) (by simp [numN]) (((Below.refl _ w).alloc (Nat.le_refl _) _).trans (ho.below (Nat.le_refl _))))
    · have HP2 : Hid (∀ W : World, Calls Tryd.prog 71 #[.int .u8 c2, .int .u8 48, .int .u8 57] W fun e w' => e = .returned (.tuple #[.int .i64 0, .bool false]) ∧ w' = W) := fun W => place_out _ _ _ W (by decide) (by decide) d2
      have HF : Hid (formN 3 118 c1 c2 = false) := decide_eq_false (by omega)
      clear l1 d2
      go_enter Tryd.func60, Tryd.ntmps60
      go_wp2_with fail
      refine (HP1.out _).mono ?_
      rintro e w1 ⟨rfl, hw1⟩
      have hw2 := hw1.symm
      clear hw1
      subst hw2
      go_wp2_with fail
      refine (HP2.out _).mono ?_
      rintro e w1 ⟨rfl, hw1⟩
      have hw2 := hw1.symm
      clear hw1
      subst hw2
      go_wp2_with (refine wpList_store_rowG rfl 125 _ _ rfl w.heap.size #[.int .u8 118, .int .i64 (c1 - 48), .int .i64 0] rfl rfl 125 #[.int .u8 0, .int .i64 0, .int .i64 0] (heap_alloc_new w _) rfl (by simp [Value.oneCell']) Tryd.sizeRecord ?_; intro w5 hq ho)
      exact bodyPost_ret (v := .tuple #[.agg #[.int .u8 118, .int .i64 (c1 - 48), .int .i64 0], .bool false]) (results_row2 Tryd.results60 _ _ w.heap.size 125 _ _ _ rfl rfl hq Tryd.underlying125 rfl Tryd.sizeRecord) rfl (ReadP.no HF.out (((Below.refl _ w).alloc (Nat.le_refl _) _).trans (ho.below (Nat.le_refl _))))
  · have HP1 : Hid (∀ W : World, Calls Tryd.prog 71 #[.int .u8 c1, .int .u8 48, .int .u8 55] W fun e w' => e = .returned (.tuple #[.int .i64 0, .bool false]) ∧ w' = W) := fun W => place_out _ _ _ W (by decide) (by decide) l1
    have HF : Hid (formN 3 118 c1 c2 = false) := decide_eq_false (by omega)
    clear l1
    by_cases d2 : 48 ≤ c2 ∧ c2 ≤ 57
    · have HP2 : Hid (∀ W : World, Calls Tryd.prog 71 #[.int .u8 c2, .int .u8 48, .int .u8 57] W fun e w' => e = .returned (.tuple #[.int .i64 (c2 - 48), .bool true]) ∧ w' = W) := fun W => place_in _ _ _ W (by decide) (by decide) d2
      clear d2
      go_enter Tryd.func60, Tryd.ntmps60
      go_wp2_with fail
      refine (HP1.out _).mono ?_
      rintro e w1 ⟨rfl, hw1⟩
      have hw2 := hw1.symm
      clear hw1
      subst hw2
      go_wp2_with fail
      refine (HP2.out _).mono ?_
      rintro e w1 ⟨rfl, hw1⟩
      have hw2 := hw1.symm
      clear hw1
      subst hw2
      go_wp2_with (refine wpList_store_rowG rfl 125 _ _ rfl w.heap.size #[.int .u8 118, .int .i64 0, .int .i64 (c2 - 48)] rfl rfl 125 #[.int .u8 0, .int .i64 0, .int .i64 0] (heap_alloc_new w _) rfl (by simp [Value.oneCell']) Tryd.sizeRecord ?_; intro w5 hq ho)
      exact bodyPost_ret (v := .tuple #[.agg #[.int .u8 118, .int .i64 0, .int .i64 (c2 - 48)], .bool false]) (results_row2 Tryd.results60 _ _ w.heap.size 125 _ _ _ rfl rfl hq Tryd.underlying125 rfl Tryd.sizeRecord) rfl (ReadP.no HF.out (((Below.refl _ w).alloc (Nat.le_refl _) _).trans (ho.below (Nat.le_refl _))))
    · have HP2 : Hid (∀ W : World, Calls Tryd.prog 71 #[.int .u8 c2, .int .u8 48, .int .u8 57] W fun e w' => e = .returned (.tuple #[.int .i64 0, .bool false]) ∧ w' = W) := fun W => place_out _ _ _ W (by decide) (by decide) d2
      clear d2
      go_enter Tryd.func60, Tryd.ntmps60
      go_wp2_with fail
      refine (HP1.out _).mono ?_
      rintro e w1 ⟨rfl, hw1⟩
      have hw2 := hw1.symm
      clear hw1
      subst hw2
      go_wp2_with fail
      refine (HP2.out _).mono ?_
      rintro e w1 ⟨rfl, hw1⟩
      have hw2 := hw1.symm
      clear hw1
      subst hw2
      go_wp2_with (refine wpList_store_rowG rfl 125 _ _ rfl w.heap.size #[.int .u8 118, .int .i64 0, .int .i64 0] rfl rfl 125 #[.int .u8 0, .int .i64 0, .int .i64 0] (heap_alloc_new w _) rfl (by simp [Value.oneCell']) Tryd.sizeRecord ?_; intro w5 hq ho)
      exact bodyPost_ret (v := .tuple #[.agg #[.int .u8 118, .int .i64 0, .int .i64 0], .bool false]) (results_row2 Tryd.results60 _ _ w.heap.size 125 _ _ _ rfl rfl hq Tryd.underlying125 rfl Tryd.sizeRecord) rfl (ReadP.no HF.out (((Below.refl _ w).alloc (Nat.le_refl _) _).trans (ho.below (Nat.le_refl _))))

set_option maxRecDepth 100000 in
set_option maxHeartbeats 800000 in
theorem read_three_o (t : ByteArray) (c0 c1 c2 : Int) (w : World) (hz : t.size = 3) (h1 : c0 ≠ 106) (h2 : c0 ≠ 114) (h3 : c0 ≠ 118) (a0 : ∀ W : World, (Instr.index 9 (.string t) (.int .i64 0)).run Tryd.prog W = .ok (.int .u8 c0) W) :
    Calls Tryd.prog 60 #[.string t] w (ReadP 3 c0 c1 c2 w) := by
  have z3 : ((t.size : Int) == 2) = false := by simp; omega
  have z4 : ((t.size : Int) == 3) = true := by simp; omega
  have HF : Hid (formN 3 c0 c1 c2 = false) := decide_eq_false (by omega)
  have j1 : (c0 == 106) = false := by simpa using h1
  have j2 : (c0 == 114) = false := by simpa using h2
  have j3 : (c0 == 118) = false := by simpa using h3
  clear hz h1 h2 h3
  go_enter Tryd.func60, Tryd.ntmps60
  go_wp2_with (refine wpList_store_rowG rfl 125 _ _ rfl w.heap.size #[.int .u8 0, .int .i64 0, .int .i64 0] rfl rfl 125 #[.int .u8 0, .int .i64 0, .int .i64 0] (heap_alloc_new w _) rfl (by simp [Value.oneCell']) Tryd.sizeRecord ?_; intro w5 hq ho)
  exact bodyPost_ret (v := .tuple #[.agg #[.int .u8 0, .int .i64 0, .int .i64 0], .bool false]) (results_row2 Tryd.results60 _ _ w.heap.size 125 _ _ _ rfl rfl hq Tryd.underlying125 rfl Tryd.sizeRecord) rfl (ReadP.no HF.out (((Below.refl _ w).alloc (Nat.le_refl _) _).trans (ho.below (Nat.le_refl _))))

/-- The program's readRecord, at every text. -/
theorem read_any (t : ByteArray) (w : World) :
    Calls Tryd.prog 60 #[.string t] w (ReadP t.size (byt t 0) (byt t 1) (byt t 2) w) := by
  by_cases h : t.size < 2 ∨ 3 < t.size
  · exact read_size t w h _ _ _
  · by_cases h2 : t.size = 2
    · rw [h2]
      exact read_two t _ _ _ w h2 (byt_bd _ _) (byt_bd _ _) (byt_bd _ _) (index_byt t 0 (by omega)) (index_byt t 1 (by omega))
    · have h3 : t.size = 3 := by omega
      have i0 := index_byt t 0 (by omega)
      have i1 := index_byt t 1 (by omega)
      have i2 := index_byt t 2 (by omega)
      rw [h3]
      by_cases k1 : byt t 0 = 106
      · rw [k1] at i0 ⊢
        exact read_three_j t _ _ w h3 (byt_bd _ _) (byt_bd _ _) i0 i1 i2
      · by_cases k2 : byt t 0 = 114
        · rw [k2] at i0 ⊢
          exact read_three_r t _ _ w h3 (byt_bd _ _) (byt_bd _ _) i0 i1 i2
        · by_cases k3 : byt t 0 = 118
          · rw [k3] at i0 ⊢
            exact read_three_v t _ _ w h3 (byt_bd _ _) (byt_bd _ _) i0 i1 i2
          · exact read_three_o t _ _ _ w h3 k1 k2 k3 i0

end Go.Proofs.YtcfjhbcpjpgodaaDoor
