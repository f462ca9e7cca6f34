/- Proved here: what a walk wants of those five sentinels that certificates and blocks come to: they hold pointers, all different. -/
import Derived.Test.YtcfjhbcpjpgodaaGreatDoorJ3
namespace Go.Proofs.YtcfjhbcpjpgodaaGreatDoor
open Go.RowKit

/-- ErrArg, ErrForm, ErrSeal, ErrCert, ErrRecord, by their numbers in package api. -/
def fiveB (i : Nat) : Bool := i == 0 || i == 1 || i == 2 || i == 9 || i == 11

/-- Twelve pointers, all different; five variables hold theirs. -/
structure SentF (es : List Addr) (w : World) : Prop where
  len : es.length = sentGs.length
  nodup : es.Nodup
  cellF : ∀ (i g : Nat) (a : Addr), sentGs[i]? = some g → es[i]? = some a → fiveB i = true → w.cell? ⟨g, 0, none⟩ = some (.iface 294 (.pointer (some a)))
  blk : ∀ a, a ∈ es → ∃ c t, w.heap[a.block]? = some (.cells c t (0, 0))

theorem SentF.cell {es : List Addr} {w : World} (h : SentF es w) (i g : Nat) (a : Addr) (hg : sentGs[i]? = some g) (ha : es[i]? = some a) (hi : fiveB i = true := by decide) : w.cell? ⟨g, 0, none⟩ = some (.iface 294 (.pointer (some a))) := h.cellF i g a hg ha hi

theorem SentF.of {es : List Addr} {w : World} (h : Sent es w) : SentF es w := ⟨h.len, h.nodup, fun i g a hg ha _ => h.cell i g a hg ha, h.blk⟩

theorem SentF.later {es : List Addr} {w w' : World} (h : SentF es w) (hb : Below w.heap.size w w') : SentF es w' := by
  refine ⟨h.len, h.nodup, fun i g a hg ha hi => ?_, fun a ha => ?_⟩
  · have hc := h.cellF i g a hg ha hi
    rw [hb.cell (p := ⟨g, 0, none⟩) (World.block_lt_of_cell? _ _ hc)]
    exact hc
  · obtain ⟨c, t, hc⟩ := h.blk a ha
    refine ⟨c, t, ?_⟩
    rw [hb.block _ (row_lt0 hc)]
    exact hc

end Go.Proofs.YtcfjhbcpjpgodaaGreatDoor
