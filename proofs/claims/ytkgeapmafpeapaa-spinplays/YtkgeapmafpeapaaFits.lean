/-
  The contract of fits: may a memory of so many cells hold the job?
-/
import Derived.Test.YtkgeapmafpeapaaAll
namespace Go.Proofs.Ytkgeapmafpeapaa
open Go.RowKit
attribute [local go_sem ↓] Go.wp_at_zero Go.wp_at_succ

structure Jb where
  kind : Int
  at_ : Int
  work : Int
  A : Int
  B : Int
def Jb.row (j : Jb) : List Value := [.int .i64 j.kind, .int .i64 j.at_, .int .i64 j.work, .int .i64 j.A, .int .i64 j.B]
def Jb.val (j : Jb) : Value := .agg #[.int .i64 j.kind, .int .i64 j.at_, .int .i64 j.work, .int .i64 j.A, .int .i64 j.B]
theorem Jb.row_length (j : Jb) : j.row.length = 5 := rfl

def Jb.fit (j : Jb) (n : Int) : Prop := 0 ≤ j.work ∧ j.work ≤ 100 ∧ 0 ≤ j.at_ ∧ ((j.kind = 1 ∧ j.at_ ≤ n - 1) ∨ ((j.kind = 2 ∨ j.kind = 3) ∧ j.at_ ≤ n - 3))

def fitsAns (k a x : Int) (A B n : Int) (ans : Bool) (w : World) : Prop :=
  Calls Try.prog 27 #[.agg #[.int .i64 k, .int .i64 a, .int .i64 x, .int .i64 A, .int .i64 B], .int .i64 n] w fun e w' => e = .returned (.bool ans) ∧ Below w.heap.size w w'

set_option maxHeartbeats 400000 in
theorem fits_w0 (k a x A B n : Int) (w : World) (h : x < 0) : fitsAns k a x A B n false w := by
  unfold fitsAns
  go_enter Try.func27, Try.ntmps27
  go_wp2
  go_ret
  exact ⟨rfl, (Below.refl _ _).alloc (Nat.le_refl _) _⟩
set_option maxHeartbeats 400000 in
theorem fits_w1 (k a x A B n : Int) (w : World) (h : 100 < x) : fitsAns k a x A B n false w := by
  have h0 : ¬ x < 0 := by omega
  unfold fitsAns
  go_enter Try.func27, Try.ntmps27
  go_wp2
  go_ret
  exact ⟨rfl, (Below.refl _ _).alloc (Nat.le_refl _) _⟩
set_option maxHeartbeats 400000 in
theorem fits_k (k a x A B n : Int) (w : World) (h0 : 0 ≤ x) (h1 : x ≤ 100) (k1 : ¬ k = 1) (k2 : ¬ k = 2) (k3 : ¬ k = 3) : fitsAns k a x A B n false w := by
  have g0 : ¬ x < 0 := by omega
  have g1 : ¬ 100 < x := by omega
  have e1 : (k == 1) = false := by simp [k1]
  have e2 : (k == 2) = false := by simp [k2]
  have e3 : (k == 3) = false := by simp [k3]
  clear k1 k2 k3
  unfold fitsAns
  go_enter Try.func27, Try.ntmps27
  go_wp2
  go_ret
  exact ⟨rfl, (Below.refl _ _).alloc (Nat.le_refl _) _⟩
set_option maxHeartbeats 400000 in
theorem fits_1 (a x A B n : Int) (w : World) (h0 : 0 ≤ x) (h1 : x ≤ 100) (n0 : 1 ≤ n) (n1 : n ≤ 64) (ans : Bool) (ha : ans = (decide (0 ≤ a) && decide (a ≤ n - 1))) : fitsAns 1 a x A B n ans w := by
  have g0 : ¬ x < 0 := by omega
  have g1 : ¬ 100 < x := by omega
  unfold fitsAns
  have HA := hide ha
  clear ha
  by_cases a0 : 0 ≤ a
  · by_cases a1 : a ≤ n - 1
    · go_enter Try.func27, Try.ntmps27
      go_wp2
      go_ret
      exact ⟨by rw [unhide HA]; simp [a0, a1], (Below.refl _ _).alloc (Nat.le_refl _) _⟩
    · have a2 : ¬ a ≤ n - 1 := a1
      go_enter Try.func27, Try.ntmps27
      go_wp2
      go_ret
      exact ⟨by rw [unhide HA]; simp [a0]; omega, (Below.refl _ _).alloc (Nat.le_refl _) _⟩
  · have a2 : ¬ (0 : Int) ≤ a := a0
    go_enter Try.func27, Try.ntmps27
    go_wp2
    go_ret
    exact ⟨by rw [unhide HA]; simp; omega, (Below.refl _ _).alloc (Nat.le_refl _) _⟩
set_option maxHeartbeats 400000 in
theorem fits_2 (k a x A B n : Int) (w : World) (hk : k = 2 ∨ k = 3) (h0 : 0 ≤ x) (h1 : x ≤ 100) (n0 : 1 ≤ n) (n1 : n ≤ 64) (ans : Bool) (ha : ans = (decide (0 ≤ a) && decide (a ≤ n - 3))) : fitsAns k a x A B n ans w := by
  have g0 : ¬ x < 0 := by omega
  have g1 : ¬ 100 < x := by omega
  unfold fitsAns
  have HA := hide ha
  clear ha
  rcases hk with rfl | rfl
  all_goals
    by_cases a0 : 0 ≤ a
    · by_cases a1 : a ≤ n - 3
      · go_enter Try.func27, Try.ntmps27
        go_wp2
        go_ret
        exact ⟨by rw [unhide HA]; simp [a0, a1], (Below.refl _ _).alloc (Nat.le_refl _) _⟩
      · have a2 : ¬ a ≤ n - 3 := a1
        go_enter Try.func27, Try.ntmps27
        go_wp2
        go_ret
        exact ⟨by rw [unhide HA]; simp [a0]; omega, (Below.refl _ _).alloc (Nat.le_refl _) _⟩
    · have a2 : ¬ (0 : Int) ≤ a := a0
      go_enter Try.func27, Try.ntmps27
      go_wp2
      go_ret
      exact ⟨by rw [unhide HA]; simp; omega, (Below.refl _ _).alloc (Nat.le_refl _) _⟩

theorem fits_yes (j : Jb) (n : Int) (w : World) (n0 : 1 ≤ n) (n1 : n ≤ 64) (h : j.fit n) : Calls Try.prog 27 #[j.val, .int .i64 n] w fun e w' => e = .returned (.bool true) ∧ Below w.heap.size w w' := by
  obtain ⟨h0, h1, h2, ⟨h3, h4⟩ | ⟨h3, h4⟩⟩ := h
  · unfold Jb.val; rw [h3]
    exact fits_1 _ _ _ _ _ _ h0 h1 n0 n1 true (by simp [h2, h4])
  · exact fits_2 _ _ _ _ _ _ _ h3 h0 h1 n0 n1 true (by simp [h2, h4])
theorem fits_no (j : Jb) (n : Int) (w : World) (n0 : 1 ≤ n) (n1 : n ≤ 64) (h : ¬ j.fit n) : Calls Try.prog 27 #[j.val, .int .i64 n] w fun e w' => e = .returned (.bool false) ∧ Below w.heap.size w w' := by
  by_cases h0 : j.work < 0
  · exact fits_w0 _ _ _ _ _ _ _ h0
  by_cases h1 : 100 < j.work
  · exact fits_w1 _ _ _ _ _ _ _ h1
  by_cases k1 : j.kind = 1
  · unfold Jb.val; rw [k1]
    refine fits_1 _ _ _ _ _ _ (by omega) (by omega) n0 n1 false ?_
    by_cases a0 : 0 ≤ j.at_
    · have : ¬ j.at_ ≤ n - 1 := fun a1 => h ⟨by omega, by omega, a0, .inl ⟨k1, a1⟩⟩
      simp; omega
    · simp; omega
  by_cases k23 : j.kind = 2 ∨ j.kind = 3
  · refine fits_2 _ _ _ _ _ _ _ k23 (by omega) (by omega) n0 n1 false ?_
    by_cases a0 : 0 ≤ j.at_
    · have : ¬ j.at_ ≤ n - 3 := fun a1 => h ⟨by omega, by omega, a0, .inr ⟨k23, a1⟩⟩
      simp; omega
    · simp; omega
  · exact fits_k _ _ _ _ _ _ _ (by omega) (by omega) k1 (fun h => k23 (.inl h)) (fun h => k23 (.inr h))
end Go.Proofs.Ytkgeapmafpeapaa
