/-
  The contract of a writer's step.
-/
import Derived.Test.YtkgeapmafpeapaaHold
namespace Go.Proofs.Ytkgeapmafpeapaa
open Go.RowKit
attribute [local go_sem ↓] Go.wp_at_zero Go.wp_at_succ

set_option maxRecDepth 100000 in
set_option maxHeartbeats 600000 in
theorem write0e (b c q n i : Nat) (ws : List Int) (st : Int) (ms : List Mach) (M : Mach) (w : World) (hS : Sys w b c q n ws st ms) (hi : ms[i]? = some M) (ha : M.at_ + 2 < n) (s0 : 0 ≤ st) (s1 : st ≤ 1000000) (hn : M.next = 0) (hv : (ws.getD M.at_ 0).tmod 2 = 0) :
    Calls Try.prog 35 #[.pointer (some ⟨q, 15 * i, none⟩), .pointer (some ⟨b, 0, none⟩)] w fun e w' => e = .returned (.tuple #[]) ∧ Sys w' b c q n (ws) (st + 1) (ms.set i ({ M with count := ws.getD M.at_ 0, next := 1 })) ∧ Frq b c q w w' := by
  have K := hide (counted_e b c q n i ws st 1 ms M w hS hi (by omega) s0 s1 (by omega) hv)
  clear hv
  obtain ⟨c0, c1, c2, c3, c4, c5, c6, c7, c8, c9, c10, c11, c12, c13, c14, fr⟩ := hS.cells hi
  rw [hn] at c10
  clear hn
  generalize hp : 15 * i = p at *
  have HP := hide hp
  clear hp
  go_enter Try.func35, Try.ntmps35
  go_wp2_with fail
  go_step3
  go_wp2_with fail
  go_step3
  go_wp2_with fail
  go_loopw [] (fun wr => wr = w) (fun _ => 0)
  case atStart => rfl
  case round =>
    subst hrel
    go_wp2_with fail
    refine (unhide K).mono ?_
    rintro e w2 ⟨rfl, hS2, hF2⟩
    go_wp2_with fail
    rw [Exit.noGoto_ret]
    refine bodyPost_ret (results_none rfl _ _ _) rfl ?_
    exact ⟨rfl, hS2, hF2⟩

set_option maxRecDepth 100000 in
set_option maxHeartbeats 600000 in
theorem write0o (b c q n i : Nat) (ws : List Int) (st : Int) (ms : List Mach) (M : Mach) (w : World) (hS : Sys w b c q n ws st ms) (hi : ms[i]? = some M) (ha : M.at_ + 2 < n) (s0 : 0 ≤ st) (s1 : st ≤ 1000000) (hn : M.next = 0) (hv : ¬ (ws.getD M.at_ 0).tmod 2 = 0) (t0 : 0 ≤ M.tries) (t1 : M.tries ≤ 1000000) :
    Calls Try.prog 35 #[.pointer (some ⟨q, 15 * i, none⟩), .pointer (some ⟨b, 0, none⟩)] w fun e w' => e = .returned (.tuple #[]) ∧ Sys w' b c q n (ws) (st + 1) (ms.set i ({ M with count := ws.getD M.at_ 0, tries := M.tries + 1, next := 0 })) ∧ Frq b c q w w' := by
  have K := hide (counted_o b c q n i ws st 1 ms M w hS hi (by omega) s0 s1 t0 t1 hv)
  clear hv
  obtain ⟨c0, c1, c2, c3, c4, c5, c6, c7, c8, c9, c10, c11, c12, c13, c14, fr⟩ := hS.cells hi
  rw [hn] at c10
  clear hn
  generalize hp : 15 * i = p at *
  have HP := hide hp
  clear hp
  go_enter Try.func35, Try.ntmps35
  go_wp2_with fail
  go_step3
  go_wp2_with fail
  go_step3
  go_wp2_with fail
  go_loopw [] (fun wr => wr = w) (fun _ => 0)
  case atStart => rfl
  case round =>
    subst hrel
    go_wp2_with fail
    refine (unhide K).mono ?_
    rintro e w2 ⟨rfl, hS2, hF2⟩
    go_wp2_with fail
    rw [Exit.noGoto_ret]
    refine bodyPost_ret (results_none rfl _ _ _) rfl ?_
    exact ⟨rfl, hS2, hF2⟩

set_option maxRecDepth 100000 in
set_option maxHeartbeats 600000 in
theorem write1y (b c q n i : Nat) (ws : List Int) (st : Int) (ms : List Mach) (M : Mach) (w : World) (hS : Sys w b c q n ws st ms) (hi : ms[i]? = some M) (ha : M.at_ + 2 < n) (s0 : 0 ≤ st) (s1 : st ≤ 1000000) (hn : M.next = 1) (hv : ws.getD M.at_ 0 = M.count) :
    Calls Try.prog 35 #[.pointer (some ⟨q, 15 * i, none⟩), .pointer (some ⟨b, 0, none⟩)] w fun e w' => e = .returned (.tuple #[]) ∧ Sys w' b c q n (ws.set M.at_ (IntKind.i64.wrap (M.count + 1))) (st + 1) (ms.set i ({ M with next := 2 })) ∧ Frq b c q w w' := by
  have K := hide (swapped_y b c q n M.at_ ws st M.count (IntKind.i64.wrap (M.count + 1)) ms w.drew hS.drew (by omega) s0 s1 hv)
  clear hv
  obtain ⟨c0, c1, c2, c3, c4, c5, c6, c7, c8, c9, c10, c11, c12, c13, c14, fr⟩ := hS.cells hi
  rw [hn] at c10
  clear hn
  generalize hp : 15 * i = p at *
  have HP := hide hp
  clear hp
  go_enter Try.func35, Try.ntmps35
  go_wp2_with fail
  go_step3
  go_wp2_with fail
  go_step3
  go_wp2_with fail
  go_loopw [] (fun wr => wr = w) (fun _ => 0)
  case atStart => rfl
  case round =>
    subst hrel
    go_wp2_with fail
    go_region_held3 (fun w' => w'.cell? ⟨q, p + 1, none⟩ = some (.int .i64 (M.at_ : Int)) ∧ w'.cell? ⟨q, p + 12, none⟩ = some (.int .i64 M.count)) (go_keep)
      (first | (go_at_call 43; refine (unhide K).mono ?_; rintro e w1 ⟨rfl, hS1, hF1⟩; have HC := hS1.cells hi; rw [unhide HP] at HC; obtain ⟨d0, d1, d2, d3, d4, d5, d6, d7, d8, d9, d10, d11, d12, d13, d14, fd⟩ := HC))
    clear c0 c1 c2 c3 c4 c5 c6 c7 c8 c9 c10 c11 c12 c13 c14 fr
    have K2 := hide (enter_else b c q n i _ (st + 1) ms M 2 w1 hS1 hi (by omega))
    rw [unhide HP] at K2
    go_wp2_with fail
    refine (unhide K2).mono ?_
    rintro e w2 ⟨rfl, hS2, hF2⟩
    go_wp2_with fail
    rw [Exit.noGoto_ret]
    refine bodyPost_ret (results_none rfl _ _ _) rfl ?_
    exact ⟨rfl, hS2, ((Frq.refl b c q wr).drew.trans hF1).trans hF2⟩

set_option maxRecDepth 100000 in
set_option maxHeartbeats 600000 in
theorem write1n (b c q n i : Nat) (ws : List Int) (st : Int) (ms : List Mach) (M : Mach) (w : World) (hS : Sys w b c q n ws st ms) (hi : ms[i]? = some M) (ha : M.at_ + 2 < n) (s0 : 0 ≤ st) (s1 : st ≤ 1000000) (hn : M.next = 1) (hv : ¬ ws.getD M.at_ 0 = M.count) (t0 : 0 ≤ M.tries) (t1 : M.tries ≤ 1000000) :
    Calls Try.prog 35 #[.pointer (some ⟨q, 15 * i, none⟩), .pointer (some ⟨b, 0, none⟩)] w fun e w' => e = .returned (.tuple #[]) ∧ Sys w' b c q n (ws) (st + 1) (ms.set i (M.again)) ∧ Frq b c q w w' := by
  have K := hide (swapped_n b c q n M.at_ ws st M.count (IntKind.i64.wrap (M.count + 1)) ms w.drew hS.drew (by omega) s0 s1 hv)
  clear hv
  obtain ⟨c0, c1, c2, c3, c4, c5, c6, c7, c8, c9, c10, c11, c12, c13, c14, fr⟩ := hS.cells hi
  rw [hn] at c10
  clear hn
  generalize hp : 15 * i = p at *
  have HP := hide hp
  clear hp
  go_enter Try.func35, Try.ntmps35
  go_wp2_with fail
  go_step3
  go_wp2_with fail
  go_step3
  go_wp2_with fail
  go_loopw [] (fun wr => wr = w) (fun _ => 0)
  case atStart => rfl
  case round =>
    subst hrel
    go_wp2_with fail
    go_region_held3 (fun w' => w'.cell? ⟨q, p + 1, none⟩ = some (.int .i64 (M.at_ : Int)) ∧ w'.cell? ⟨q, p + 12, none⟩ = some (.int .i64 M.count)) (go_keep)
      (first | (go_at_call 43; refine (unhide K).mono ?_; rintro e w1 ⟨rfl, hS1, hF1⟩; have HC := hS1.cells hi; rw [unhide HP] at HC; obtain ⟨d0, d1, d2, d3, d4, d5, d6, d7, d8, d9, d10, d11, d12, d13, d14, fd⟩ := HC))
    clear c0 c1 c2 c3 c4 c5 c6 c7 c8 c9 c10 c11 c12 c13 c14 fr
    have K2 := hide (again_any b c q n i _ (st + 1) ms M w1 hS1 hi t0 t1)
    rw [unhide HP] at K2
    go_wp2_with fail
    refine (unhide K2).mono ?_
    rintro e w2 ⟨rfl, hS2, hF2⟩
    go_wp2_with fail
    rw [Exit.noGoto_ret]
    refine bodyPost_ret (results_none rfl _ _ _) rfl ?_
    exact ⟨rfl, hS2, ((Frq.refl b c q wr).drew.trans hF1).trans hF2⟩

set_option maxRecDepth 100000 in
set_option maxHeartbeats 600000 in
theorem write3 (b c q n i : Nat) (ws : List Int) (st : Int) (ms : List Mach) (M : Mach) (w : World) (hS : Sys w b c q n ws st ms) (hi : ms[i]? = some M) (ha : M.at_ + 2 < n) (s0 : 0 ≤ st) (s1 : st ≤ 1000000) (hn : M.next = 3) (hl : ¬ M.left = 0) (l0 : 0 ≤ M.left) (l1 : M.left ≤ 100) :
    Calls Try.prog 35 #[.pointer (some ⟨q, 15 * i, none⟩), .pointer (some ⟨b, 0, none⟩)] w fun e w' => e = .returned (.tuple #[]) ∧ Sys w' b c q n (ws) (st + 1) (ms.set i (M.toil)) ∧ Frq b c q w w' := by
  have K := hide (toil_any b c q n i ws st ms M w hS hi (by omega) s0 s1 l0 l1)
  have hl1 : (M.left == 0) = false := by simp [hl]
  clear hl
  obtain ⟨c0, c1, c2, c3, c4, c5, c6, c7, c8, c9, c10, c11, c12, c13, c14, fr⟩ := hS.cells hi
  rw [hn] at c10
  clear hn
  generalize hp : 15 * i = p at *
  have HP := hide hp
  clear hp
  go_enter Try.func35, Try.ntmps35
  go_wp2_with fail
  go_step3
  go_wp2_with fail
  go_step3
  go_wp2_with fail
  go_loopw [] (fun wr => wr = w) (fun _ => 0)
  case atStart => rfl
  case round =>
    subst hrel
    go_wp2_with fail
    refine (unhide K).mono ?_
    rintro e w2 ⟨rfl, hS2, hF2⟩
    go_wp2_with fail
    rw [Exit.noGoto_ret]
    refine bodyPost_ret (results_none rfl _ _ _) rfl ?_
    exact ⟨rfl, hS2, hF2⟩

set_option maxRecDepth 100000 in
set_option maxHeartbeats 600000 in
theorem write5 (b c q n i : Nat) (ws : List Int) (st : Int) (ms : List Mach) (M : Mach) (w : World) (hS : Sys w b c q n ws st ms) (hi : ms[i]? = some M) (ha : M.at_ + 2 < n) (s0 : 0 ≤ st) (s1 : st ≤ 1000000) (hn : M.next = 5) :
    Calls Try.prog 35 #[.pointer (some ⟨q, 15 * i, none⟩), .pointer (some ⟨b, 0, none⟩)] w fun e w' => e = .returned (.tuple #[]) ∧ Sys w' b c q n (ws.set M.at_ (IntKind.i64.wrap (M.count + 2))) (st + 1) (ms.set i ({ M with done := true })) ∧ Frq b c q w w' := by
  have K := hide (hS.drew.store M.at_ _ (IntKind.i64.wrap (M.count + 2)) rfl (by omega) s0 s1)
  obtain ⟨c0, c1, c2, c3, c4, c5, c6, c7, c8, c9, c10, c11, c12, c13, c14, fr⟩ := hS.cells hi
  rw [hn] at c10
  clear hn
  generalize hp : 15 * i = p at *
  have HP := hide hp
  clear hp
  go_enter Try.func35, Try.ntmps35
  go_wp2_with fail
  go_step3
  go_wp2_with fail
  go_step3
  go_wp2_with fail
  go_loopw [] (fun wr => wr = w) (fun _ => 0)
  case atStart => rfl
  case round =>
    subst hrel
    go_wp2_with fail
    go_region_held3 (fun w' => w'.cell? ⟨q, p + 1, none⟩ = some (.int .i64 (M.at_ : Int)) ∧ w'.cell? ⟨q, p + 12, none⟩ = some (.int .i64 M.count)) (go_keep)
      (first | (go_at_call 26; refine (unhide K).mono ?_; rintro e w1 ⟨rfl, hS1, hF1⟩; have HC := hS1.cells hi; rw [unhide HP] at HC; obtain ⟨d0, d1, d2, d3, d4, d5, d6, d7, d8, d9, d10, d11, d12, d13, d14, fd⟩ := HC))
    clear c0 c1 c2 c3 c4 c5 c6 c7 c8 c9 c10 c11 c12 c13 c14 fr
    have R2 := hS1.put hi 6 (by omega) (.bool true) { M with done := true } rfl
    have F2 := hF1.set (15 * i + 6) (.bool true)
    rw [unhide HP] at R2 F2
    have F := hide F2
    have R := hide R2
    clear R2 F2
    go_wp2_with fail
    rw [Exit.noGoto_ret]
    refine bodyPost_ret (results_none rfl _ _ _) rfl ?_
    exact ⟨rfl, unhide R, (Frq.refl b c q wr).drew.trans (unhide F)⟩
end Go.Proofs.Ytkgeapmafpeapaa
