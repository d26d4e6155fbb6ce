/-
  The document's own rights: the contracts of its calls.
-/
import Derived.Test.YtojnohonofkegaaKnown
namespace Go.Proofs.Ytojnohonofkegaa
open Go.RowKit

theorem rmasked_any (m : Int) (w : World) : Calls Try.prog 15 #[I m] w fun e w' => e = .returned (I (bits .and .i64 m 4095)) ∧ w' = w := by
  go_enter Try.func15, Try.ntmps15
  go_wp2_with fail
  go_ret
  exact ⟨rfl, rfl⟩
theorem rowns_any (cu cg n k m u g l z : Int) (w : World) : Calls Try.prog 13 #[Cr cu cg, St n k m u g l z] w fun e w' => e = .returned (.bool (owns cu u)) ∧ Below w.heap.size w w' := by
  by_cases h0 : cu = 0
  · subst h0
    go_enter Try.func13, Try.ntmps13
    go_wp2_with fail
    go_ret
    exact ⟨by simp [owns], two _ _ _⟩
  · have h0' : (cu == 0) = false := by simpa using h0
    go_enter Try.func13, Try.ntmps13
    go_wp2_with fail
    go_ret
    exact ⟨by simp [owns, h0'], two _ _ _⟩
set_option maxRecDepth 100000 in
theorem rsticky_any (cu cg n k m u g l z n' k' m' u' g' l' z' : Int) (w : World) : Calls Try.prog 14 #[Cr cu cg, St n k m u g l z, St n' k' m' u' g' l' z'] w fun e w' => e = .returned (.bool (stk cu m u u')) ∧ Below w.heap.size w w' := by
  by_cases h0 : bits .and .i64 m 512 = 0
  · go_enter Try.func14, Try.ntmps14
    go_wp2_with fail
    go_ret
    exact ⟨by simp [stk, h0], three _ _ _ _⟩
  · have h0' : (bits .and .i64 m 512 != 0) = true := by simpa using h0
    cases h1 : owns cu u with
    | true =>
      go_enter Try.func14, Try.ntmps14
      go_wp2_with fail
      refine (rowns_any _ _ _ _ _ _ _ _ _ _).mono ?_
      rintro e w1 ⟨rfl, B1⟩
      rw [h1]
      go_wp2_with fail
      go_ret
      exact ⟨by simp [stk, h1], Below.step (three _ _ _ _) B1 (Nat.le_refl _)⟩
    | false =>
      go_enter Try.func14, Try.ntmps14
      go_wp2_with fail
      refine (rowns_any _ _ _ _ _ _ _ _ _ _).mono ?_
      rintro e w1 ⟨rfl, B1⟩
      rw [h1]
      have L := (lay3 _ _ _ _).step B1
      clear B1
      obtain ⟨c0, c1⟩ := L.cr 0 (b := w.heap.size) rfl rfl
      obtain ⟨d0, d1, d2, d3, d4, d5, d6, d7⟩ := L.st 2 (b := w.heap.size + 1 + 1) rfl rfl
      go_wp2_with fail
      refine (rowns_any _ _ _ _ _ _ _ _ _ _).mono ?_
      rintro e w2 ⟨rfl, B2⟩
      go_wp2_with fail
      go_ret
      exact ⟨by simp [stk, h0', h1], (L.step B2).below⟩
set_option maxRecDepth 100000 in
theorem rmay_any (cu cg n k m u g l z wt : Int) (w : World) : Calls Try.prog 12 #[Cr cu cg, St n k m u g l z, I wt] w fun e w' => e = .returned (.bool (may cu cg m u g wt)) ∧ Below w.heap.size w w' := by
  by_cases h0 : cu = 0
  · subst h0
    go_enter Try.func12, Try.ntmps12
    go_wp2_with fail
    go_ret
    exact ⟨by simp [may, cnt, show lo 7 = 7 from rfl, has_seven], two _ _ _⟩
  · have h0' : (cu == 0) = false := by simpa using h0
    by_cases h1 : cu = u <;> by_cases h2 : cg = g
    all_goals go_enter Try.func12, Try.ntmps12
    all_goals go_wp2_with fail
    all_goals go_ret
    all_goals refine ⟨?_, two _ _ _⟩
    all_goals show Ending.returned (Value.bool _) = _
    all_goals rw [and7, and7, has_and]
    all_goals unfold may cnt
    all_goals rw [if_neg h0]
    all_goals first | rw [if_pos h1] | rw [if_neg h1, if_pos h2] | rw [if_neg h1, if_neg h2]
end Go.Proofs.Ytojnohonofkegaa
