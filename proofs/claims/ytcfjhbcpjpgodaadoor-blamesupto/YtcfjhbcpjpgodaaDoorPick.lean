/- Proved here: the law's pick tells a number below n. -/
import Derived.Test.YtcfjhbcpjpgodaaDoorBase
namespace Go.Proofs.YtcfjhbcpjpgodaaDoor
open Go.RowKit

theorem pick_any (c : Int) (n : Nat) (w : World) (h1 : -9223372036854775808 ≤ c) (h2 : c ≤ 9223372036854775807) (hn : 1 ≤ n) (hn2 : n ≤ 1000000000) :
    Calls Tryd.prog 29 #[.int .i64 c, .int .i64 (n : Int)] w fun e w' => (∃ r : Nat, r < n ∧ e = .returned (.int .i64 (r : Int))) ∧ w' = w := by
  have hz : ((n : Int) == 0) = false := by simp; omega
  have hz2 : ¬ (n : Int) = 0 := by omega
  by_cases hc : c < 0
  · obtain ⟨d, hd⟩ : ∃ d : Int, d = -(c + 1) := ⟨_, rfl⟩
    have hd0 : 0 ≤ d := by omega
    have hd1 : d ≤ 9223372036854775807 := by omega
    obtain ⟨r, hr⟩ : ∃ r : Nat, (r : Int) = d.tmod n := ⟨(d.tmod n).toNat, by rw [Int.toNat_of_nonneg (Int.tmod_nonneg _ hd0)]⟩
    have hrn : r < n := by have := Int.tmod_lt_of_pos d (show (0 : Int) < n by omega); omega
    have HR := hide hr
    have HD := hide hd
    have HN := hide hrn
    clear hr hrn
    go_enter Tryd.func29, Tryd.ntmps29
    go_wp2
    go_ret
    refine ⟨⟨r, HN.out, ?_⟩, rfl⟩
    show Ending.returned (Value.int .i64 (-(c + 1).tmod (n : Int))) = _
    rw [HR.out, HD.out, Int.neg_tmod]

  · obtain ⟨r, hr⟩ : ∃ r : Nat, (r : Int) = c.tmod n := ⟨(c.tmod n).toNat, by rw [Int.toNat_of_nonneg (Int.tmod_nonneg _ (by omega))]⟩
    have hrn : r < n := by have := Int.tmod_lt_of_pos c (show (0 : Int) < n by omega); omega
    have HR := hide hr
    have HN := hide hrn
    clear hr hrn
    go_enter Tryd.func29, Tryd.ntmps29
    go_wp2
    go_ret
    refine ⟨⟨r, HN.out, ?_⟩, rfl⟩
    show Ending.returned (Value.int .i64 (c % (n : Int))) = _
    rw [HR.out, Int.tmod_eq_emod_of_nonneg (by omega)]

end Go.Proofs.YtcfjhbcpjpgodaaDoor
