/-
  What Same, Within and long answer.
-/
import Derived.Test.YtnhddendkolfeaaBase
import Derived.Maps.AppendAt
namespace Go.Proofs.Ytnhddendkolfeaa
open Go.RowKit
attribute [local go_sem ↓] Go.wp_at_zero Go.wp_at_succ

set_option maxHeartbeats 1000000 in
theorem same_yes (pa pb : Option Addr) (c c' L : Nat) (kl : List (List UInt8)) (hll : kl.length = L) (hl : L ≤ 1000000) (w : World) (h : RowO w pa kl) (h' : RowO w pb kl) :
    Calls Try.prog 17 #[.slice pa L c, .slice pb L c'] w fun e w' => e = .returned (.bool true) ∧ Below w.heap.size w w' := by
  have H := hide h
  have H' := hide h'
  clear h h'
  replace hll := hide hll
  go_enter Try.func17, Try.ntmps17
  go_wp2_with fail
  go_loopw [5] (fun i wr => ∃ j : Nat, j ≤ L ∧ i = .int .i64 j ∧ ∃ m, wr = w.drewN m) (fun i _ => L - (intOf i).toNat)
  case atStart => exact ⟨0, by omega, rfl, 0, rfl⟩
  case round =>
    obtain ⟨j, hj, rfl, m, rfl⟩ := hrel
    by_cases hlt : j < L
    · have j0 : (0 : Int) ≤ (j : Int) := by omega
      have j1 : (j : Int) < (L : Int) := by omega
      obtain ⟨s, hs⟩ : ∃ s, kl[j]? = some s := ⟨_, List.getElem?_eq_getElem (by rw [unhide hll]; exact hlt)⟩
      obtain ⟨b, off, rfl, -, c1⟩ := (unhide H) j s hs
      obtain ⟨b', off', rfl, -, c2⟩ := (unhide H') j s hs
      clear hs
      go_wp2_with fail
      go_quiet (fail)
      go_wp2_with fail
      exact ⟨⟨j + 1, by omega, rfl, m + nq, by simp [World.drewN]⟩, by simp [intOf]; omega⟩
    · have j1 : ¬ (j : Int) < (L : Int) := by omega
      go_wp2_with fail
      go_ret
      exact ⟨rfl, below_dn (Below.refl _ w) m⟩
set_option maxHeartbeats 400000 in
theorem within_any (v hi : Int) (w : World) (h0 : 0 ≤ hi) (h1 : hi ≤ 5000) :
    Calls Try.prog 22 #[.int .i64 v, .int .i64 0, .int .i64 hi] w fun e w' => (∃ r : Int, 0 ≤ r ∧ r ≤ hi ∧ e = .returned (.int .i64 r)) ∧ w' = w := by
  have t1 : v.tmod (hi + 1) < hi + 1 := Int.tmod_lt_of_pos v (by omega)
  have t2 : -(hi + 1) < v.tmod (hi + 1) := by
    have h := Int.tmod_lt_of_pos (-v) (show 0 < hi + 1 by omega)
    rw [Int.neg_tmod] at h
    omega
  have t3 : ¬ hi + 1 = 0 := by omega
  by_cases hn : v.tmod (hi + 1) < 0
  · go_enter Try.func22, Try.ntmps22
    go_wp2
    go_ret
    exact ⟨⟨_, by omega, by omega, rfl⟩, rfl⟩
  · go_enter Try.func22, Try.ntmps22
    go_wp2
    go_ret
    exact ⟨⟨_, by omega, by omega, rfl⟩, rfl⟩

end Go.Proofs.Ytnhddendkolfeaa
