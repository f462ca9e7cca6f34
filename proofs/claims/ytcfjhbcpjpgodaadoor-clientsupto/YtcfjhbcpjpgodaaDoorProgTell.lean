/- Proved here: what the program's registry tells: its powers, its names, its roles. -/
import Derived.Test.YtcfjhbcpjpgodaaDoorProgBehind
import Derived.Test.YtcfjhbcpjpgodaaDoorPlain
import Derived.Test.YtcfjhbcpjpgodaaDoorRoomy
import Derived.Test.YtcfjhbcpjpgodaaDoorJ35
import Derived.Lib.SlBuf
import Derived.Laws.MakeOwn
namespace Go.Proofs.YtcfjhbcpjpgodaaDoor
open Go.RowKit

theorem Tryd.infoByteT : (Tryd.prog.info? 5).map (fun i => (i.zero, i.size, i.bytes)) = some (some (.int .u8 0), 1, 1) := by kernel_rfl

/-- The roles as cells, all of them; names as bytes. -/
def rolL (x : Nat → Int) : List Value := (List.range 26).map fun j => .int .i64 (x (8 + j))
def byteL (l : List Nat) : List Value := l.map fun (j : Nat) => .int .u8 (97 + (j : Int))
theorem rolL_length (x : Nat → Int) : (rolL x).length = 26 := by simp [rolL]
theorem rolL_get (x : Nat → Int) (i : Nat) (h : i < 26) : (rolL x).toArray[i]? = some (.int .i64 (x (8 + i))) := by simp [rolL, h]
theorem byteL_append (l : List Nat) (k : Nat) : byteL (l ++ [k]) = byteL l ++ [.int .u8 (97 + (k : Int))] := by simp [byteL]
theorem rolL_range {w : World} {g : Nat} {t : TypeId} {x : Nat → Int} (h : RegAt w g t x) : w.rangeAt g 8 (rolL x) := fun j v hv => by
  have hj : j < 26 := by have := (List.getElem?_eq_some_iff.1 hv).1; simpa [rolL] using this
  rw [h.cell (8 + j) (by omega)]
  have : (rolL x)[j]? = some (.int .i64 (x (8 + j))) := by simp [rolL, hj]
  rw [this] at hv
  exact hv

set_option maxRecDepth 100000 in
theorem index_rol (C : Array Value) (k : Nat) (v : Int) (hk : k < 26) (hg : C[k]? = some (.int .i64 v)) (W : World) : (Instr.index 52 (.agg C) (.int .i64 (k : Int))).run Tryd.prog W = .ok (.int .i64 v) W := by
  have h : 0 ≤ (k : Int) ∧ (k : Int) < ((26 : Nat) : Int) := by omega
  simp [Instr.index, run_underlying Tryd.underlying52, asIntOf, go_sem, Tryd.sizeOf3, Tryd.isAgg3, hg, hk]

/-- Names as bytes, made a text. -/
theorem conv_names (w : World) (base : Nat) (v : Value) (l : List Nat) (h : w.ownsRow base 5 1 v l.length (byteL l)) : (convert 90 9 v).run Tryd.prog w = .ok (.string (nameB l)) w := by
  rcases h.2 with ⟨rfl, hn⟩ | ⟨g, cap, cur, rfl, hb, hg, hnc, hcm, hcs, ht⟩
  · obtain rfl := List.length_eq_zero_iff.1 hn
    exact run_convert_bytes_nil w 90 5 Tryd.underlying90 Tryd.underlying5 0 0 9 Tryd.underlying9
  · refine run_convert_bytes_arg w 90 5 Tryd.underlying90 Tryd.underlying5 g 0 l.length cap (l.map fun (j : Nat) => (j : Int) + 97) (by simp) (fun i hi => ?_) 9 Tryd.underlying9
    rw [cell_of_row w g (0 + i) _ _ _ hg, Nat.zero_add]
    have e1 : (cur.toList.take (l.length * 1))[i]? = (byteL l)[i]? := by rw [ht]
    rw [List.getElem?_take, if_pos (by omega)] at e1
    rw [← Array.getElem?_toList, e1]
    simp [byteL, hi, Int.add_comm]

theorem own_of_row {w : World} {g base : Nat} {t : TypeId} {l : List Value} (h : w.heap[g]? = some (.cells l.toArray t (0, 0))) (hb : base ≤ g) (hl : l.length ≤ maxLen) : w.ownsRow base t 1 (.slice (some ⟨g, 0, none⟩) l.length l.length) l.length l :=
  ⟨by simp, Or.inr ⟨g, l.length, l.toArray, rfl, hb, h, Nat.le_refl _, hl, by simp, by simp⟩⟩

set_option linter.unusedSimpArgs false in
set_option maxRecDepth 100000 in
set_option maxHeartbeats 3200000 in
theorem tell_any (x : Nat → Int) (w : World) (hx : Dom x) :
    Calls Tryd.prog 41 #[.agg (regA x)] w fun e w' => ∃ p r, e = .returned (.agg #[p, .string (nameB (memb x 26)), r]) ∧ w'.ownsRow w.heap.size 3 1 p 8 (powL x 8) ∧ w'.ownsRow w.heap.size 3 1 r (memb x 26).length (roleL x (memb x 26)) ∧ (∀ g, p.ownBlock = some g → r.ownBlock ≠ some g) ∧ Below w.heap.size w w' := by
  obtain ⟨i3, hi, hz0, hz1, hz2⟩ := info_parts Tryd.infoInt
  obtain ⟨i5, hi5, hz50, hz51, hz52⟩ := info_parts Tryd.infoByteT
  have hmk : ∀ W : World, (Instr.makeSlice 38 (.int .i64 8) (.int .i64 8)).run Tryd.prog W = .ok (.slice (some ⟨W.heap.size, 0, none⟩) 8 8) (W.alloc (.cells #[.int .i64 0, .int .i64 0, .int .i64 0, .int .i64 0, .int .i64 0, .int .i64 0, .int .i64 0, .int .i64 0] 3)) := fun W => by
    have h := run_makeSlice (P := Tryd.prog) W 38 3 i3 (.int .i64 0) Tryd.underlying38 hi hz0 .i64 .i64 8 8 (by decide) (by decide) (by rw [hz1]; decide) (by rw [hz2]; decide) (by decide)
    have e : madeCells (Value.cells (.int .i64 0)) (Int.toNat 8 * 1) = #[.int .i64 0, .int .i64 0, .int .i64 0, .int .i64 0, .int .i64 0, .int .i64 0, .int .i64 0, .int .i64 0] := by kernel_rfl
    rw [h, hz1, e]
    rfl
  have HX := hide hx
  clear hx
  obtain ⟨W, hW⟩ : ∃ W, W = (((w.alloc (.cells (regA x) 92)).alloc (.cells #[.slice none 0 0, .string ⟨#[]⟩, .slice none 0 0] 48)).alloc (.cells #[.int .i64 0, .int .i64 0, .int .i64 0, .int .i64 0, .int .i64 0, .int .i64 0, .int .i64 0, .int .i64 0] 3)) := ⟨_, rfl⟩
  have e1 : (w.alloc (.cells (regA x) 92)).heap.size = w.heap.size + 1 := by simp
  have e2 : ((w.alloc (.cells (regA x) 92)).alloc (.cells #[.slice none 0 0, .string ⟨#[]⟩, .slice none 0 0] 48)).heap.size = w.heap.size + 1 + 1 := by simp
  have hWs : W.heap.size = w.heap.size + 1 + 1 + 1 := by rw [hW]; simp
  have HR : Hid (RegAt W w.heap.size 92 x) := by
    unfold Hid
    rw [hW]
    exact ((RegAt.alloc w _ x).below ((Below.refl _ _).alloc (Nat.le_refl _) _)).below ((Below.refl _ _).alloc (Nat.le_refl _) _)
  have HT1 : Hid (ToldAt W (w.heap.size + 1) (.slice none 0 0) ByteArray.empty (.slice none 0 0)) := by
    unfold Hid
    have h : ToldAt ((w.alloc (.cells (regA x) 92)).alloc (.cells #[.slice none 0 0, .string ⟨#[]⟩, .slice none 0 0] 48)) (w.alloc (.cells (regA x) 92)).heap.size (.slice none 0 0) ByteArray.empty (.slice none 0 0) := heap_alloc_new (w.alloc (.cells (regA x) 92)) _
    rw [e1] at h
    rw [hW]
    exact h.block (Below.heap_alloc _ _ (w.heap.size + 1) h.lt)
  have HZ : Hid (W.heap[w.heap.size + 1 + 1]? = some (.cells #[.int .i64 0, .int .i64 0, .int .i64 0, .int .i64 0, .int .i64 0, .int .i64 0, .int .i64 0, .int .i64 0] 3 (0, 0))) := by
    unfold Hid
    have h := heap_alloc_new ((w.alloc (.cells (regA x) 92)).alloc (.cells #[.slice none 0 0, .string ⟨#[]⟩, .slice none 0 0] 48)) (.cells #[.int .i64 0, .int .i64 0, .int .i64 0, .int .i64 0, .int .i64 0, .int .i64 0, .int .i64 0, .int .i64 0] 3)
    rw [e2] at h
    rw [hW]
    exact h
  have HB : Hid (Below w.heap.size w W) := by
    unfold Hid
    rw [hW]
    exact (((Below.refl _ w).alloc (Nat.le_refl _) _).alloc (by simp) _).alloc (by rw [e2]; omega) _
  have hW2 := hW.symm
  clear hW e1 e2
  have HN3 := hide (heap_alloc_new W (.cells #[.slice none 0 0, .string ⟨#[]⟩, .slice none 0 0] 48))
  go_enter Tryd.func41, Tryd.ntmps41
  go_wp2_with (refine wpList_store_rowG rfl 48 _ _ rfl W.heap.size #[.slice (some ⟨w.heap.size + 1 + 1, 0, none⟩) 8 8, .string ⟨#[]⟩, .slice none 0 0] (by rw [hWs]; rfl) rfl 48 #[.slice none 0 0, .string ⟨#[]⟩, .slice none 0 0] HN3.out rfl (by simp [Value.oneCell']) Tryd.sizeTold ?_; intro w4 hq ho)
  have HQ : Hid (ToldAt w4 (w.heap.size + 1 + 1 + 1) (.slice (some ⟨w.heap.size + 1 + 1, 0, none⟩) 8 8) ByteArray.empty (.slice none 0 0)) := by have := hq; rw [hWs] at this; exact this
  have HO : Hid (Only (w.heap.size + 1 + 1 + 1) (W.alloc (.cells #[.slice none 0 0, .string ⟨#[]⟩, .slice none 0 0] 48)) w4) := by have := ho; rw [hWs] at this; exact this
  clear hq ho HN3 hmk
  have HB4 : Hid (Below W.heap.size W w4) := ((Below.refl _ W).alloc (Nat.le_refl _) _).trans (HO.out.below (by omega))
  have HR4 := hide (HR.out.below HB4.out)
  have HT14 := hide (HT1.out.block (HB4.out.block (w.heap.size + 1) (by omega)))
  have HZ4 : Hid (w4.heap[w.heap.size + 1 + 1]? = some (.cells #[.int .i64 0, .int .i64 0, .int .i64 0, .int .i64 0, .int .i64 0, .int .i64 0, .int .i64 0, .int .i64 0] 3 (0, 0))) := (HB4.out.block _ (by omega)).trans HZ.out
  have HBW : Hid (Below w.heap.size w w4) := HB.out.trans (HB4.out.mono HB.out.size)
  clear HB4 HO HR HT1 HZ HB hW2
  refine wp_region_held_drew (S := fun W' => ToldAt W' (w.heap.size + 1 + 1 + 1) (.slice (some ⟨w.heap.size + 1 + 1, 0, none⟩) 8 8) ByteArray.empty (.slice none 0 0)) (by kernel_rfl) HQ.out (fun hHeld => ?_)
  refine takeD 0 (some 9) (.pointer (some ⟨w.heap.size + 1 + 1 + 1, 0, none⟩)) rfl rfl (by kernel_rfl) (by kernel_rfl) (by kernel_rfl) (fun _ _ _ h => h) (Or.inl ⟨by rfl, ?_⟩) hHeld ?_
  · intro w hSw
    go_simp
  simp only [Act.put, List.setIfInBounds_toArray, List.set_cons_zero, List.set_cons_succ]
  refine takeD 1 (some 10) (.slice (some ⟨w.heap.size + 1 + 1, 0, none⟩) 8 8) rfl rfl (by kernel_rfl) (by kernel_rfl) (by kernel_rfl) (fun _ _ _ h => h) (Or.inl ⟨by rfl, ?_⟩) hHeld ?_
  · intro w hSw
    have hcx := hSw.cell.1
    go_simp
  simp only [Act.put, List.setIfInBounds_toArray, List.set_cons_zero, List.set_cons_succ]
  refine takeD 2 (some 11) (.pointer (some ⟨w.heap.size, 0, none⟩)) rfl rfl (by kernel_rfl) (by kernel_rfl) (by kernel_rfl) (fun _ _ _ h => h) (Or.inl ⟨by rfl, ?_⟩) hHeld ?_
  · intro w hSw
    go_simp
  simp only [Act.put, List.setIfInBounds_toArray, List.set_cons_zero, List.set_cons_succ]
  refine takeD 3 (some 12) (.slice (some ⟨w.heap.size, 0, none⟩) 8 8) rfl rfl (by kernel_rfl) (by kernel_rfl) (by kernel_rfl) (fun _ _ _ h => h) (Or.inl ⟨by rfl, ?_⟩) hHeld ?_
  · intro w hSw
    go_simp
  simp only [Act.put, List.setIfInBounds_toArray, List.set_cons_zero, List.set_cons_succ]
  refine wpAnyH_ready (rs := [4]) (by kernel_rfl) (by simp) ?_
  refine AllReadyH.cons rfl (fun K hK => ?_) AllReadyH.nil
  rw [if_pos (by rfl)]
  refine Lib.wp_copy_run _ _ _ 38 38 rfl _ _ rfl rfl (run_copy_row (P := Tryd.prog) _ 38 38 _ 3 (w.heap.size + 1 + 1) 0 8 8 ⟨w.heap.size, 0, none⟩ 8 8 #[.int .i64 0, .int .i64 0, .int .i64 0, .int .i64 0, .int .i64 0, .int .i64 0, .int .i64 0, .int .i64 0] 3 (powL x 8) Tryd.underlying38 (by rw [hi]; simp [hz1]) HZ4.out (by rw [powL_length]; rfl) (fun j v hv => ?_) (by rw [powL_length]; decide) (fun v hv => ?_)) ?_
  · have hj : j < 8 := by have := (List.getElem?_eq_some_iff.1 hv).1; rwa [powL_length] at this
    rw [addr_add, Nat.zero_add]
    have h := HR4.out.cell j (by omega)
    have h2 : (powL x 8)[j]? = some (.int .i64 (x j)) := by simp [powL, hj]
    rw [h2] at hv
    cases hv
    exact h
  · simp only [powL, List.mem_map] at hv
    obtain ⟨i, _, rfl⟩ := hv
    rfl
  obtain ⟨w5, hw5⟩ : ∃ w5, w5 = w4.drew.setRow (w.heap.size + 1 + 1) ((#[.int .i64 0, .int .i64 0, .int .i64 0, .int .i64 0, .int .i64 0, .int .i64 0, .int .i64 0, .int .i64 0] : Array Value).toList.take 0 ++ powL x 8 ++ (#[.int .i64 0, .int .i64 0, .int .i64 0, .int .i64 0, .int .i64 0, .int .i64 0, .int .i64 0, .int .i64 0] : Array Value).toList.drop (0 + (powL x 8).length)).toArray := ⟨_, rfl⟩
  have HO5 : Hid (Only (w.heap.size + 1 + 1) w4 w5) := by unfold Hid; rw [hw5]; exact ⟨rfl, rfl, rfl, by simp, fun k hk => setRow_other _ _ _ _ hk⟩
  have HP5 : Hid (w5.heap[w.heap.size + 1 + 1]? = some (.cells (powL x 8).toArray 3 (0, 0))) := by
    unfold Hid
    rw [hw5, setRow_heap w4.drew _ #[.int .i64 0, .int .i64 0, .int .i64 0, .int .i64 0, .int .i64 0, .int .i64 0, .int .i64 0, .int .i64 0] _ 3 (0, 0) HZ4.out]
    have e : (#[.int .i64 0, .int .i64 0, .int .i64 0, .int .i64 0, .int .i64 0, .int .i64 0, .int .i64 0, .int .i64 0] : Array Value).toList.drop (0 + (powL x 8).length) = [] := by rw [powL_length]; rfl
    rw [e, List.take_zero, List.nil_append, List.append_nil]
  rw [← hw5]
  clear hw5
  have HT35 : Hid (ToldAt w5 (w.heap.size + 1 + 1 + 1) (.slice (some ⟨w.heap.size + 1 + 1, 0, none⟩) 8 8) ByteArray.empty (.slice none 0 0)) := hHeld.block (HO5.out.block _ (by omega))
  refine hK.out _ _ HT35.out (fun hHeld => ?_)
  clear hK K
  refine wpAnyH_done (by kernel_rfl) ?_ _
  have HR5 := hide (HR4.out.only HO5.out (by omega))
  have HT15 := hide (HT14.out.block (HO5.out.block (w.heap.size + 1) (by omega)))
  have HB5 : Hid (Below w.heap.size w w5) := HBW.out.trans (HO5.out.below (by omega))
  have hs5 : w.heap.size + 1 + 1 + 1 < w5.heap.size := HT35.out.lt
  clear HQ HR4 HT14 HZ4 HBW HO5 hHeld
  go_wp2_with (refine wpList_load_mid rfl 52 _ rfl w.heap.size 8 rfl (rolL x) _ (rolL_range HR5.out) Tryd.underlying52 rfl (by rw [rolL_length]; exact Tryd.sizeRoles) ?_)
  go_loopw [4, 5, 6, 16] (fun nm _ _ i ws => ∃ (k : Nat) (rv : Value), k ≤ 26 ∧ i = .int .i64 k ∧ But w5.heap.size (w.heap.size + 1 + 1 + 1) w5 ws ∧ ToldAt ws (w.heap.size + 1 + 1 + 1) (.slice (some ⟨w.heap.size + 1 + 1, 0, none⟩) 8 8) ByteArray.empty rv ∧ ws.ownsRow w5.heap.size 5 1 nm (memb x k).length (byteL (memb x k)) ∧ ws.ownsRow w5.heap.size 3 1 rv (memb x k).length (roleL x (memb x k))) (fun _ _ _ i _ => 26 - (intOf i).toNat)
  case atStart => exact ⟨0, .slice none 0 0, by omega, rfl, But.refl _ _ _, HT35.out, World.ownsRow_nil _ _ _ _, World.ownsRow_nil _ _ _ _⟩
  case round =>
    obtain ⟨k, rv, hk, rfl, hbt, htw, hon, hor⟩ := hrel
    have HBT := hide hbt
    have HTW := hide htw
    have HON := hide hon
    have HOR := hide hor
    have HBS := hide hbt.size
    clear hbt htw hon hor
    by_cases hk26 : k = 26
    · subst hk26
      have HT1W := hide (HT15.out.block (HBT.out.block (w.heap.size + 1) (by omega) (by omega)))
      have HPW := hide ((HBT.out.block (w.heap.size + 1 + 1) (by omega) (by omega)).trans HP5.out)
      have HBW := hide (HB5.out.trans (HBT.out.below (B' := w.heap.size) (by omega) (by omega)))
      have hcv := conv_names wr w5.heap.size _ (memb x 26) HON.out
      obtain ⟨np, nc, rfl⟩ := own_slice HON.out
      obtain ⟨rp, rc, rfl⟩ := own_slice HOR.out
      have hc1 := HTW.out.cell.2.1
      have hf1 := HTW.out.frozen 1
      have HTN := hide (HTW.out.set1 (nameB (memb x 26)))
      have HON1 := hide (only_setCell wr (w.heap.size + 1 + 1 + 1) 1 (.string (nameB (memb x 26))))
      generalize hgW : wr.setCell ⟨w.heap.size + 1 + 1 + 1, 1, none⟩ (.string (nameB (memb x 26))) = w6 at HTN HON1
      go_wp2_with (first | (refine wpList_load_row rfl 48 _ rfl (w.heap.size + 1 + 1 + 1) rfl 48 _ (0, 0) _ HTN.out Tryd.underlying48 rfl Tryd.sizeTold ?_) | (refine wpList_store_rowG rfl 48 _ _ rfl (w.heap.size + 1) _ rfl rfl 48 _ (HT1W.out.block (HON1.out.block (w.heap.size + 1) (by omega))) rfl (by simp [Value.oneCell']) Tryd.sizeTold ?_; intro w7 hq ho))
      have hb6 : ∀ g, g ≠ (w.heap.size + 1) → g ≠ (w.heap.size + 1 + 1 + 1) → w7.heap[g]? = wr.heap[g]? := fun g h1 h2 => (ho.block g h1).trans (HON1.out.block g h2)
      have HP7 : Hid (w7.heap[w.heap.size + 1 + 1]? = some (.cells (powL x 8).toArray 3 (0, 0))) := (hb6 _ (by omega) (by omega)).trans HPW.out
      have HOR7 : Hid (w7.ownsRow w5.heap.size 3 1 (.slice rp (memb x 26).length rc) (memb x 26).length (roleL x (memb x 26))) := own_blocks HOR.out (fun g hg _ => hb6 g (by have := (HOR.out.lt g hg).1; omega) (by have := (HOR.out.lt g hg).1; omega))
      have HP8 := hide (own_of_row (base := w.heap.size) HP7.out (by omega) (by rw [powL_length]; unfold maxLen; omega))
      rw [powL_length] at HP8
      exact bodyPost_ret (v := .agg #[.slice (some ⟨w.heap.size + 1 + 1, 0, none⟩) 8 8, .string (nameB (memb x 26)), .slice rp (memb x 26).length rc]) (results_cell_row Tryd.results41 _ _ (w.heap.size + 1) 48 _ (0, 0) _ rfl hq Tryd.underlying48 rfl Tryd.sizeTold) rfl ⟨_, _, rfl, HP8.out, own_base HOR7.out (by omega), fun g e1 e2 => by (have h1 := (HOR7.out.lt g e2).1; have e3 : some (w.heap.size + 1 + 1) = some g := e1; have e4 := Option.some.inj e3; omega), (HBW.out.trans (HON1.out.below (by omega))).trans (ho.below (by omega))⟩
    · have hki : (k : Int) < 26 := by omega
      have hkl : k < 26 := by omega
      have hix := index_rol (rolL x).toArray k (x (8 + k)) hkl (rolL_get x k hkl)
      clear hk26
      by_cases hpos : 0 < x (8 + k)
      · have HMY := hide (memb_yes x k hpos)
        have hml := memb_length x k
        have hzb : (x (8 + k) == 0) = false := by simp; omega
        have hzn : (x (8 + k) != 0) = true := by simp; omega
        clear hpos
        go_wp2_with (first | (at_builtin; refine wpList_append_own _ rfl _ _ 90 rfl w5.heap.size 5 i5 (.int .u8 0) 1 1 Tryd.underlying90 hi5 hz50 hz51 hz52 rfl (by decide) _ _ _ rfl (HON.out.alloc _) ⟨wr.heap.size, 0, none⟩ 1 1 [.int .u8 (97 + (k : Int))] rfl rfl ?c1 ?c2 ?c3 ?c4 ?c5 ?_) | go_in)
        case c1 =>
          intro j u hj
          match j, hj with
          | 0, hj => simp at hj; subst hj; simp [Addr.add]
        case c2 => intro u hu; simp at hu; subst hu; rfl
        case c3 => unfold maxLen; omega
        case c4 => omega
        case c5 => have := HBS.out; simp; omega
        intro nm' w6 hown6 hgrow6 _
        have HON6 := hide hown6
        have HAP : Hid (∀ g, rv.ownBlock = some g → _ ) := own_apart HOR.out HON.out (by decide)
        have HOR6 : Hid (w6.ownsRow w5.heap.size 3 1 rv (memb x k).length (roleL x (memb x k))) := own_blocks (HOR.out.alloc (.cells #[.int .u8 (97 + (k : Int))] 5)) (fun g hg hlt => hgrow6.block g hlt (fun e => HAP.out g hg e.symm))
        have HB6 : Hid (Below w5.heap.size wr w6) := ((Below.refl _ wr).alloc HBS.out _).grown hgrow6 (by have := HBS.out; simp; omega) (fun j hj => (HON.out.lt j hj).1)
        clear hown6 hgrow6 HAP
        have HT6 := hide (HTW.out.block (HB6.out.block (w.heap.size + 1 + 1 + 1) (by omega)))
        have hc6 := HT6.out.cell.2.2
        have hs6 : w5.heap.size ≤ w6.heap.size := Nat.le_trans HBS.out HB6.out.size
        go_wp2_with (first | (at_builtin; refine wpList_append_own _ rfl _ _ 38 rfl w5.heap.size 3 i3 (.int .i64 0) 1 8 Tryd.underlying38 hi hz0 hz1 hz2 rfl (by decide) _ _ _ rfl (HOR6.out.alloc _) ⟨w6.heap.size, 0, none⟩ 1 1 [.int .i64 (x (8 + k))] rfl rfl ?c1 ?c2 ?c3 ?c4 ?c5 ?_) | go_in)
        case c1 =>
          intro j u hj
          match j, hj with
          | 0, hj => simp at hj; subst hj; simp [Addr.add]
        case c2 => intro u hu; simp at hu; subst hu; rfl
        case c3 => unfold maxLen; omega
        case c4 => omega
        case c5 => simp; omega
        intro rv' w7 hown7 hgrow7 _
        obtain ⟨rp, rc, rfl⟩ := own_slice hown7
        have HOR7 := hide hown7
        have HAP := hide (own_apart HON6.out HOR6.out (by decide))
        have HON7 := hide (own_blocks (HON6.out.alloc (.cells #[.int .i64 (x (8 + k))] 3)) (fun g hg hlt => hgrow7.block g hlt (fun e => HAP.out g hg e.symm)))
        have HB7 : Hid (Below w5.heap.size wr w7) := (HB6.out.alloc (by omega) _).grown hgrow7 (by simp; omega) (fun j hj => (HOR6.out.lt j hj).1)
        clear hown7 hgrow7 HAP hc6
        have HT7 := hide (HTW.out.block (HB7.out.block (w.heap.size + 1 + 1 + 1) (by omega)))
        have hc7 := HT7.out.cell.2.2
        have hf7 := HT7.out.frozen 2
        go_wp2
        go_roundw
        case rel =>
          refine ⟨k + 1, .slice rp ((memb x k).length + 1) rc, by omega, by go_num, (HBT.out.trans (But.of_below HB7.out)).trans (But.of_only (only_setCell _ _ _ _)), HT7.out.set2 _, ?_, ?_⟩
          · exact own_blocks (by rw [HMY.out, byteL_append, List.length_append]; exact HON7.out) (fun g hg _ => (only_setCell _ _ _ _).block g (by have := (HON7.out.lt g hg).1; omega))
          · exact own_blocks (by rw [HMY.out, roleL_append, List.length_append]; exact HOR7.out) (fun g hg _ => (only_setCell _ _ _ _).block g (by have := (HOR7.out.lt g hg).1; omega))
        case measure => simp [intOf]; omega
      · have HMN := hide (memb_no x k hpos)
        have hz : x (8 + k) = 0 := by have := HX.out (8 + k); omega
        rw [hz] at hix
        clear hpos hz
        go_wp2
        go_roundw
        case rel => exact ⟨k + 1, rv, by omega, by go_num, HBT.out, HTW.out, by rw [HMN.out]; exact HON.out, by rw [HMN.out]; exact HOR.out⟩
        case measure => simp [intOf]; omega

end Go.Proofs.YtcfjhbcpjpgodaaDoor
