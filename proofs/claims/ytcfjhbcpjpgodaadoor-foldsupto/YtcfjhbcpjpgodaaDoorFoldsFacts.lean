/- Proved here: plain facts that the law of Fold asks: its own example; powers and roles stay 0 to 9. -/
import Derived.Test.YtcfjhbcpjpgodaaDoorReady
import Derived.Test.YtcfjhbcpjpgodaaDoorBook
import Derived.Test.YtcfjhbcpjpgodaaDoorEqual
namespace Go.Proofs.YtcfjhbcpjpgodaaDoor
open Go.RowKit

theorem Dom.foldB : ∀ (l : List ByteArray) (z y : Nat → Int), Dom z → foldB z l = some y → Dom y
  | [], z, y, h, e => by cases e; exact h
  | t :: l, z, y, h, e => by
    rw [Go.Proofs.YtcfjhbcpjpgodaaDoor.foldB] at e
    split at e
    · exact Dom.foldB l _ y (h.behind t) e
    · cases e
theorem Dom.fold (g : Nat → Int) (n : Nat) (l : List ByteArray) : Dom (foldR g n l).1 := by
  unfold foldR
  split
  · split
    · rename_i y h
      exact Dom.foldB l _ y (Dom.gen g n) h
    · exact Dom.zero
  · exact Dom.zero

/-- The law's own example. -/
def ex1 : ByteArray := ⟨#[106, 97, 51, 44, 118, 49, 48]⟩
def ex2 : ByteArray := ⟨#[108, 97]⟩
def exG : Nat → Int := fun i => if i < 3 then 1 else 0
def exY : Nat → Int := upd (upd (upd (regOf exG 3) 8 3) 1 0) 8 0

theorem ex_cuts1 : cuts ex1 0 0 = [⟨#[106, 97, 51]⟩, ⟨#[118, 49, 48]⟩] := by
  rw [cuts_some ex1 3 (by kernel_rfl), cuts_none _ (by kernel_rfl)]
  kernel_rfl
theorem ex_cuts2 : cuts ex2 0 0 = [ex2] := cuts_none _ (by kernel_rfl)

theorem ex_all1 : ([⟨#[106, 97, 51]⟩, ⟨#[118, 49, 48]⟩] : List ByteArray).all formB = true := by decide +kernel
theorem ex_votes1 : votes [⟨#[106, 97, 51]⟩, ⟨#[118, 49, 48]⟩] = 1 := by decide +kernel

theorem ex_next (x y : Nat → Int) (t : ByteArray) (c0 c1 c2 : Int) (h0 : byt t 0 = c0) (h1 : byt t 1 = c1) (h2 : byt t 2 = c2) (h : nextR x c0 c1 c2 = (y, true)) : nextT x t = (y, true) := by
  unfold nextT
  rw [h0, h1, h2]
  exact h
theorem behindL_one (x y : Nat → Int) (t : ByteArray) (l : List ByteArray) (h : nextT x t = (y, true)) : behindL x (t :: l) = behindL y l := by
  rw [behindL, h]
  rfl

theorem ex_behind1 : behindR (regOf exG 3) ex1 = (upd (upd (regOf exG 3) 8 3) 1 0, true) := by
  refine behind_good _ _ ex1 (by decide) (by rw [ex_cuts1]; decide) (by rw [ex_cuts1]; exact ex_all1) (by rw [ex_cuts1, ex_votes1]; decide) ?_
  rw [ex_cuts1, behindL_one _ (upd (regOf exG 3) 8 3) _ _ (ex_next _ _ _ 106 97 51 (by decide +kernel) (by decide +kernel) (by decide +kernel) ?_),
    behindL_one _ (upd (upd (regOf exG 3) 8 3) 1 0) _ _ (ex_next _ _ _ 118 49 48 (by decide +kernel) (by decide +kernel) (by decide +kernel) ?_)]
  · rfl
  · unfold nextR
    refine Prod.ext rfl ?_
    decide +kernel
  · unfold nextR
    refine Prod.ext rfl ?_
    decide +kernel

theorem ex_behind2 : behindR (upd (upd (regOf exG 3) 8 3) 1 0) ex2 = (exY, true) := by
  refine behind_good _ _ ex2 (by decide) (by rw [ex_cuts2]; decide) (by rw [ex_cuts2]; decide +kernel) (by rw [ex_cuts2]; decide +kernel) ?_
  rw [ex_cuts2, behindL_one _ exY _ _ (ex_next _ _ _ 108 97 0 (by decide +kernel) (by decide +kernel) (by decide +kernel) ?_)]
  · rfl
  · unfold nextR
    refine Prod.ext rfl ?_
    decide +kernel

theorem ex_fold : foldR exG 3 [ex1, ex2] = (exY, 0) := by
  have hg : genR exG 3 = (regOf exG 3, true) := by
    rw [genR_good exG 3 (by decide) (fun i hi => by unfold exG; rw [if_pos hi]; decide)]
    have : decide (0 < sumTo exG 3) = true := by decide +kernel
    rw [this]
  refine foldR_good exG 3 _ exY (by rw [hg]) ?_
  rw [hg]
  show foldB (regOf exG 3) [ex1, ex2] = some exY
  rw [foldB, ex_behind1]
  show foldB (upd (upd (regOf exG 3) 8 3) 1 0) [ex2] = some exY
  rw [foldB, ex_behind2]
  rfl

theorem ex_memb : memb exY 26 = [] := by decide +kernel
theorem ex_name : nameB (memb exY 26) = ⟨#[]⟩ := by rw [ex_memb]; rfl

end Go.Proofs.YtcfjhbcpjpgodaaDoor
