/-
  Numbers brought within bounds.
-/
import Derived.Test.YtlngeaacjbdmhaaKnown
namespace Go.Proofs.Ytlngeaacjbdmhaa
open Go.RowKit Go.Maps

set_option maxHeartbeats 400000 in
theorem within_any (v hi : Int) (w : World) (h0 : 0 ≤ hi) (h1 : hi ≤ 1000) :
    Calls Try.prog 21 #[.int .i64 v, .int .i64 0, .int .i64 hi] w fun e w' => (∃ r : Nat, (r : Int) ≤ hi ∧ e = .returned (I (r : Int))) ∧ w' = w := by
  have t1 : v.tmod (hi + 1) < hi + 1 := Int.tmod_lt_of_pos v (by omega)
  have t2 : -(hi + 1) < v.tmod (hi + 1) := by
    have h := Int.tmod_lt_of_pos (-v) (show 0 < hi + 1 by omega)
    rw [Int.neg_tmod] at h
    omega
  have t3 : ¬ hi + 1 = 0 := by omega
  by_cases hn : v.tmod (hi + 1) < 0
  · go_enter Try.func21, Try.ntmps21
    go_wp2
    go_ret
    refine ⟨⟨(v.tmod (hi + 1) + hi + 1).toNat, by omega, ?_⟩, rfl⟩
    rw [Int.toNat_of_nonneg (by omega)]
    rfl
  · go_enter Try.func21, Try.ntmps21
    go_wp2
    go_ret
    refine ⟨⟨(v.tmod (hi + 1)).toNat, by omega, ?_⟩, rfl⟩
    rw [Int.toNat_of_nonneg (by omega)]
    rfl
end Go.Proofs.Ytlngeaacjbdmhaa
