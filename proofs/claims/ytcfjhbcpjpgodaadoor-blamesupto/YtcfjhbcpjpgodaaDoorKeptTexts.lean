/- Proved here: the law's keptTexts says yes where a copy with marks reads as it was made. -/
import Derived.Test.YtcfjhbcpjpgodaaDoorTexts
namespace Go.Proofs.YtcfjhbcpjpgodaaDoor
open Go.RowKit

set_option maxRecDepth 100000 in
theorem keptTexts_nil (w : World) :
    Calls Tryd.prog 21 #[.slice none 0 0, .slice none 0 0] w fun e w' => e = .returned (.bool true) ∧ w' = w := by
  have hnl : ∀ W : World, (binOp .eql 39 (.slice none 0 0) (.slice none 0 0)).run Tryd.prog W = .ok (.bool true) W := fun W => eql_nil _ _ Tryd.underlying39 _ _ _ W
  go_enter Tryd.func21, Tryd.ntmps21
  go_wp2
  go_ret
  exact ⟨rfl, rfl⟩

set_option maxRecDepth 100000 in
set_option maxHeartbeats 3200000 in
theorem keptTexts_any (g : Nat → ByteArray) (b o n cap gb c : Nat) (w : World) (hn : n ≤ 1099511627776) (hc : n + 8 ≤ c) (hl : Lies w w.heap.size (some ⟨b, o, none⟩) n (fun i => .string (g i)))
    (hr : ∀ i, i < n + 8 → w.cell? ⟨gb, i, none⟩ = some (if i < n then .string (g i) else .string ⟨#[126]⟩)) :
    Calls Tryd.prog 21 #[.slice (some ⟨gb, 0, none⟩) n c, .slice (some ⟨b, o, none⟩) n cap] w fun e w' => e = .returned (.bool true) ∧ w' = w := by
  have hnl : ∀ W : World, (binOp .eql 39 (.slice (some ⟨b, o, none⟩) n cap) (.slice none 0 0)).run Tryd.prog W = .ok (.bool false) W := fun W => eql_nil _ _ Tryd.underlying39 _ _ _ W
  have HL := hide hl
  have HR := hide hr
  clear hl hr
  go_enter Tryd.func21, Tryd.ntmps21
  go_wp2
  clear hnl
  go_loop [6, 7] (fun i _ => ∃ k : Nat, k ≤ n + 8 ∧ i = .int .i64 k) (fun i _ => n + 8 - (intOf i).toNat)
  case atStart => exact ⟨0, by omega, rfl⟩
  case round =>
    obtain ⟨k, hk, rfl⟩ := hrel
    by_cases hkn : k = n + 8
    · have hk1 : ¬ (k : Int) < n + 8 := by omega
      have hk2 : ¬ k < n + 8 := by omega
      clear hkn
      go_wp2
      go_ret
      exact ⟨rfl, rfl⟩
    · have hlt : k < n + 8 := by omega
      have hk1 : (k : Int) < n + 8 := by omega
      have hr1 := HR.out k hlt
      by_cases hin : k < n
      · have hin2 : (k : Int) < n := by omega
        rw [if_pos hin] at hr1
        obtain ⟨b', o', e, _, hc1⟩ := HL.out k hin
        cases e
        clear hkn
        go_wp2
        go_round
        case rel => exact ⟨k + 1, by omega, by go_num⟩
        case measure => simp [intOf]; omega
      · have hin2 : ¬ (k : Int) < n := by omega
        rw [if_neg hin] at hr1
        clear hkn
        go_wp2
        go_round
        case rel => exact ⟨k + 1, by omega, by go_num⟩
        case measure => simp [intOf]; omega

end Go.Proofs.YtcfjhbcpjpgodaaDoor
