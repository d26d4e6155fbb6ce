/-
  The document's Right, Dots and Write.
-/
import Derived.Test.YtnhddendkolfeaaCleans
namespace Go.Proofs.Ytnhddendkolfeaa
open Go.RowKit
attribute [local go_sem ↓] Go.wp_at_zero Go.wp_at_succ

set_option maxHeartbeats 1000000 in
theorem rdots_any (l : List UInt8) (w : World) : Calls Try.prog 19 #[S l] w fun e w' => e = .returned (.bool (dots l)) ∧ w' = w := by
  go_enter Try.func19, Try.ntmps19
  go_wp2
  all_goals (go_ret; refine ⟨?_, rfl⟩; simp_all [dots])
theorem take_mem {l : List UInt8} {k : Nat} (h : k < l.length) (c : UInt8) : c ∈ l.take (k + 1) ↔ c ∈ l.take k ∨ c = l[k] := by
  rw [List.take_add_one, List.getElem?_eq_getElem h, List.mem_append]
  simp
/-- A byte, as a walk compares it. -/
theorem byte_is {c d : UInt8} (n : Nat) (hn : d.toNat = n) (h : c = d) : c.toNat = n ∧ (c.toNat : Int) = (n : Int) := by subst h; subst hn; exact ⟨rfl, rfl⟩
theorem byte_not {c d : UInt8} (n : Nat) (hn : d.toNat = n) (h : ¬ c = d) : ¬ c.toNat = n ∧ ¬ (c.toNat : Int) = (n : Int) := by
  subst hn
  have h1 : ¬ c.toNat = d.toNat := fun e => h (UInt8.toNat_inj.1 e)
  exact ⟨h1, by omega⟩
theorem is0 {c : UInt8} (h : c = 0) : c.toNat = 0 ∧ (c.toNat : Int) = 0 := byte_is 0 rfl h
theorem is47 {c : UInt8} (h : c = 47) : c.toNat = 47 ∧ (c.toNat : Int) = 47 := byte_is 47 rfl h
theorem not0 {c : UInt8} (h : ¬ c = 0) : ¬ c.toNat = 0 ∧ ¬ (c.toNat : Int) = 0 := byte_not 0 rfl h
theorem not47 {c : UInt8} (h : ¬ c = 47) : ¬ c.toNat = 47 ∧ ¬ (c.toNat : Int) = 47 := byte_not 47 rfl h
set_option maxRecDepth 100000 in
set_option maxHeartbeats 1000000 in
theorem rright_any (l : List UInt8) (hl : l.length ≤ 100000) (w : World) : Calls Try.prog 18 #[S l] w fun e w' => e = .returned (.bool (right l)) ∧ w' = w := by
  go_enter Try.func18, Try.ntmps18
  go_wp2_with fail
  go_loopw [3] (fun i wr => ∃ k : Nat, k ≤ l.length ∧ i = .int .i64 k ∧ (0 : UInt8) ∉ l.take k ∧ (47 : UInt8) ∉ l.take k ∧ wr = w) (fun i _ => l.length - (intOf i).toNat)
  case atStart => exact ⟨0, by omega, rfl, by simp, by simp, rfl⟩
  case round =>
    obtain ⟨k, hk, rfl, n0, n1, rfl⟩ := hrel
    by_cases hlt : k < l.length
    · have j0 : (0 : Int) ≤ (k : Int) := by omega
      have j1 : (k : Int) < (l.length : Int) := by omega
      have r0 : l[k] ∈ l := List.getElem_mem hlt
      have hkb : k < (bs l).size := hlt
      have t0 := take_mem hlt 0
      have t1 := take_mem hlt 47
      by_cases c0 : l[k] = 0
      · have hr : right l = false := by simp [right, show (0 : UInt8) ∈ l by rw [← c0]; exact r0]
        replace hr := hide hr
        obtain ⟨d1, d2⟩ := is0 (show (bs l)[k] = 0 from c0)
        clear t0 t1 n0 n1 r0
        go_wp2_with fail
        all_goals (go_ret; exact ⟨by rw [unhide hr]; rfl, rfl⟩)
      · obtain ⟨d1, d2⟩ := not0 (show ¬ (bs l)[k] = 0 from c0)
        by_cases c1 : l[k] = 47
        · have hr : right l = false := by simp [right, show (47 : UInt8) ∈ l by rw [← c1]; exact r0]
          replace hr := hide hr
          obtain ⟨d3, d4⟩ := is47 (show (bs l)[k] = 47 from c1)
          clear t0 t1 n0 n1 r0
          go_wp2_with fail
          all_goals (go_ret; exact ⟨by rw [unhide hr]; rfl, rfl⟩)
        · obtain ⟨d3, d4⟩ := not47 (show ¬ (bs l)[k] = 47 from c1)
          have m0 : Hid ((0 : UInt8) ∉ l.take (k + 1)) := hide (by rw [t0]; rintro (h | h); exact n0 h; exact c0 h.symm)
          have m1 : Hid ((47 : UInt8) ∉ l.take (k + 1)) := hide (by rw [t1]; rintro (h | h); exact n1 h; exact c1 h.symm)
          clear t0 t1 n0 n1 r0
          have d5 : (((bs l)[k].toNat : Int) == 0) = false := by simpa using d2
          have d6 : (((bs l)[k].toNat : Int) == 47) = false := by simpa using d4
          go_wp2_with fail
          exact ⟨⟨k + 1, by omega, rfl, unhide m0, unhide m1, trivial⟩, by simp [intOf]; omega⟩
    · obtain rfl : k = l.length := by omega
      rw [List.take_length] at n0 n1
      have j1 : ¬ ((l.length : Nat) : Int) < (l.length : Int) := by omega
      have hr : right l = (decide (1 ≤ (l.length : Int)) && decide ((l.length : Int) ≤ 255) && !dots l) := by
        unfold right
        cases l with
        | nil => simp
        | cons c r =>
          simp only [List.isEmpty_cons, Bool.false_or, n0, n1, decide_false, Bool.not_false, Bool.and_true, Bool.not_or, List.length_cons]
          congr 1
          have e1 : (1 : Int) ≤ ((r.length + 1 : Nat) : Int) := by omega
          simp only [e1, decide_true, Bool.true_and]
          by_cases h : r.length + 1 ≤ 255
          · have h2 : ((r.length + 1 : Nat) : Int) ≤ 255 := by omega
            have h3 : ¬ 255 < r.length + 1 := by omega
            simp only [h2, h3, decide_true, decide_false, Bool.not_false]
          · have h2 : ¬ ((r.length + 1 : Nat) : Int) ≤ 255 := by omega
            have h3 : 255 < r.length + 1 := by omega
            simp only [h2, h3, decide_true, decide_false, Bool.not_true]
      replace hr := hide hr
      clear n0 n1
      go_wp2_with (go_at_call 19; refine (rdots_any _ _).mono ?_; rintro e w' ⟨rfl, rfl⟩)
      all_goals (go_ret; refine ⟨?_, rfl⟩; rw [unhide hr]; simp_all; try (intros; omega))
end Go.Proofs.Ytnhddendkolfeaa
