/-
  Serial of no calls, and of any row.
-/
import Derived.Test.YtlokihpegllddaaHM
namespace Go.Proofs.Ytlokihpegllddaa.Cl
open Go.RowKit Go.Shelf
attribute [local go_sem ↓] Go.wp_at_zero Go.wp_at_succ

theorem len_zero (w : World) : Calls Try.prog 30 #[.int .u64 0] w fun e w' => e = .returned (I 0) ∧ w' = w := by
  have h := Any.bits_Len (SlLaysF0.n15.bits (P := Try.prog) (ρ := Try.sortO_ren) { Try.sortO with }) 0 w (by omega) (by omega)
  exact h
set_option maxRecDepth 100000 in
set_option maxHeartbeats 1000000 in
theorem ins_nil (w : World) (f : Value) : Calls Try.prog 34 #[.slice none 0 0, I 0, I 0, f] w fun e w' => e = .returned (.tuple #[]) ∧ w' = w := by
  go_enter Try.func34, Try.ntmps34
  go_wp2_with fail
  go_loopw [8] (fun v wr => v = .int .i64 1 ∧ wr = w) (fun _ _ => 0)
  case atStart => exact ⟨rfl, rfl⟩
  case round =>
    obtain ⟨rfl, hwr⟩ := hrel
    rw [hwr]
    clear hwr
    go_wp2_with fail
    go_end0
    exact ⟨rfl, rfl⟩
set_option maxRecDepth 100000 in
set_option maxHeartbeats 1000000 in
theorem pdq_nil (w : World) (f : Value) : Calls Try.prog 29 #[.slice none 0 0, I 0, I 0, I 0, f] w fun e w' => e = .returned (.tuple #[]) ∧ w' = w := by
  go_enter Try.func29, Try.ntmps29
  go_wp2_with fail
  go_loopw [1, 2] (fun v u wr => v = .int .i64 0 ∧ u = .int .i64 0 ∧ wr = w) (fun _ _ _ => 0)
  case atStart => exact ⟨rfl, rfl, rfl⟩
  case round =>
    obtain ⟨rfl, rfl, hwr⟩ := hrel
    rw [hwr]
    clear hwr
    go_wp2_with fail
    refine (ins_nil _ _).mono ?_
    rintro e w1 ⟨rfl, rfl⟩
    go_wp2_with fail
    refine bodyPost_ret (results_none rfl _ _ _) rfl ?_
    exact ⟨rfl, rfl⟩
set_option maxRecDepth 100000 in
set_option maxHeartbeats 1000000 in
theorem sort_nil (w : World) (f : Value) : Calls Try.prog 22 #[.slice none 0 0, f] w fun e w' => e = .returned (.tuple #[]) ∧ w' = w := by
  go_enter Try.func22, Try.ntmps22
  go_wp2_with (first | (go_at_call 30; refine (len_zero _).mono ?_; rintro e w1 ⟨rfl, rfl⟩) | (go_at_call 29; refine (pdq_nil _ _).mono ?_; rintro e w1 ⟨rfl, rfl⟩))
  go_end0
  exact ⟨rfl, rfl⟩
set_option maxRecDepth 100000 in
set_option maxHeartbeats 1000000 in
theorem serial_nil (c : Nat) (w : World) : Calls Try.prog 9 #[.slice none 0 c] w fun e w' => e = .returned (.bool true) ∧ Below w.heap.size w w' := by
  go_enter Try.func9, Try.ntmps9
  go_wp2_with fail
  go_step3
  go_wp2_with fail
  refine (AnyE.slices_Clone_nil Try.cloneO 0 c w).mono ?_
  rintro e w1 ⟨rfl, rfl⟩
  go_wp2_with fail
  refine (sort_nil _ _).mono ?_
  rintro e w1 ⟨rfl, rfl⟩
  go_wp2_with fail
  go_step3
  go_wp2_with fail
  go_loopw [14] (fun v wr => v = .int .i64 0 ∧ wr = w1) (fun _ _ => 0)
  case atStart => exact ⟨rfl, rfl⟩
  case round =>
    obtain ⟨rfl, hwr⟩ := hrel
    rw [hwr]
    clear hwr
    go_wp2_with fail
    try rw [Exit.noGoto_ret]
    go_ret
    exact ⟨rfl, Below.refl _ _⟩
/-- Serial, whatever row. -/
theorem serial_all (xs : List Om) (a : Option Addr) (n c : Nat) (hn : n = xs.length) (hs : n ≤ 1000) (hG : Good (xs.map (·.o))) (w : World) (hO : Os w w.heap.size a xs) (hsp : ∀ x, a = some x → x.spot = none) :
    Calls Try.prog 9 #[.slice a n c] w fun e w' => e = .returned (.bool (serial (xs.map (·.o)))) ∧ Below w.heap.size w w' := by
  cases a with
  | none =>
    cases xs with
    | nil => subst hn; exact serial_nil c w
    | cons x xs => obtain ⟨g, off, e, -⟩ := hO 0 x rfl; cases e
  | some x =>
    obtain ⟨b, off, sp⟩ := x
    have := hsp _ rfl
    simp only at this
    subst this
    exact serial_any xs _ n c hn hs (fun e => by cases e) hG w hO b off rfl
end Go.Proofs.Ytlokihpegllddaa.Cl
