/-
  Numbers brought within bounds.
-/
import Derived.Test.YthmpplcaomgdoaaMKnown
namespace Go.Proofs.Ythmpplcaomgdoaa.Mt
open Go.RowKit
attribute [local go_sem ↓] Go.wp_at_zero Go.wp_at_succ
set_option maxHeartbeats 400000 in
theorem within_any (v hi : Int) (w : World) (h0 : 0 ≤ hi) (h1 : hi ≤ 1000) :
    Calls Try.prog 28 #[.int .i64 v, .int .i64 0, .int .i64 hi] w fun e w' => (∃ r : Int, (0 ≤ r ∧ r ≤ hi) ∧ e = .returned (I r)) ∧ w' = w := by
  have t1 : v.tmod (hi + 1) < hi + 1 := Int.tmod_lt_of_pos v (by omega)
  have t2 : -(hi + 1) < v.tmod (hi + 1) := by
    have h := Int.tmod_lt_of_pos (-v) (show 0 < hi + 1 by omega)
    rw [Int.neg_tmod] at h
    omega
  have t3 : ¬ hi + 1 = 0 := by omega
  by_cases hn : v.tmod (hi + 1) < 0
  · go_enter Try.func28, Try.ntmps28
    go_wp2
    go_ret
    exact ⟨⟨v.tmod (hi + 1) + hi + 1, by omega, rfl⟩, rfl⟩
  · go_enter Try.func28, Try.ntmps28
    go_wp2
    go_ret
    exact ⟨⟨v.tmod (hi + 1), by omega, rfl⟩, rfl⟩
end Go.Proofs.Ythmpplcaomgdoaa.Mt
