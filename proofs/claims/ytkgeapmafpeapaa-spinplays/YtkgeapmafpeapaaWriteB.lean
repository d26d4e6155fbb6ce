/-
  The contract of a writer's step: its two stores of the pair.
-/
import Derived.Test.YtkgeapmafpeapaaWrite
namespace Go.Proofs.Ytkgeapmafpeapaa
open Go.RowKit
attribute [local go_sem ↓] Go.wp_at_zero Go.wp_at_succ

theorem wrap_small (x : Int) (h0 : -1000 ≤ x) (h1 : x ≤ 1000) : IntKind.i64.wrap x = x := by rw [IntKind.wrap_i64]; omega

set_option maxRecDepth 100000 in
set_option maxHeartbeats 600000 in
theorem write2 (b c q n i : Nat) (ws : List Int) (st : Int) (ms : List Mach) (M : Mach) (w : World) (hS : Sys w b c q n ws st ms) (hi : ms[i]? = some M) (ha : M.at_ + 2 < n) (s0 : 0 ≤ st) (s1 : st ≤ 1000000) (hn : M.next = 2) :
    Calls Try.prog 35 #[.pointer (some ⟨q, 15 * i, none⟩), .pointer (some ⟨b, 0, none⟩)] w fun e w' => e = .returned (.tuple #[]) ∧ Sys w' b c q n (ws.set (M.at_ + 1) M.A) (st + 1) (ms.set i ({ M with next := 3, left := M.work })) ∧ Frq b c q w w' := by
  have hn64 := hS.n64
  have K := hide (hS.drew.store (M.at_ + 1) (IntKind.i64.wrap ((M.at_ : Int) + 1)) M.A (by rw [wrap_small _ (by omega) (by omega)]; omega) (by omega) s0 s1)
  clear hn64 ha
  obtain ⟨c0, c1, c2, c3, c4, c5, c6, c7, c8, c9, c10, c11, c12, c13, c14, fr⟩ := hS.cells hi
  rw [hn] at c10
  clear hn
  generalize hp : 15 * i = p at *
  have HP := hide hp
  clear hp
  go_enter Try.func35, Try.ntmps35
  go_wp2_with fail
  go_step3
  go_wp2_with fail
  go_step3
  go_wp2_with fail
  go_loopw [] (fun wr => wr = w) (fun _ => 0)
  case atStart => rfl
  case round =>
    subst hrel
    go_wp2_with fail
    go_region_held3 (fun w' => w'.cell? ⟨q, p + 1, none⟩ = some (.int .i64 (M.at_ : Int)) ∧ w'.cell? ⟨q, p + 3, none⟩ = some (.int .i64 M.A)) (go_keep)
      (first | (go_at_call 26; refine (unhide K).mono ?_; rintro e w1 ⟨rfl, hS1, hF1⟩; have HC := hS1.cells hi; rw [unhide HP] at HC; obtain ⟨d0, d1, d2, d3, d4, d5, d6, d7, d8, d9, d10, d11, d12, d13, d14, fd⟩ := HC))
    clear c0 c1 c2 c3 c4 c5 c6 c7 c8 c9 c10 c11 c12 c13 c14 fr
    have K2 := hide (enter_work b c q n i _ (st + 1) ms M w1 hS1 hi)
    rw [unhide HP] at K2
    go_wp2_with fail
    refine (unhide K2).mono ?_
    rintro e w2 ⟨rfl, hS2, hF2⟩
    go_wp2_with fail
    rw [Exit.noGoto_ret]
    refine bodyPost_ret (results_none rfl _ _ _) rfl ?_
    exact ⟨rfl, hS2, ((Frq.refl b c q wr).drew.trans hF1).trans hF2⟩

set_option maxRecDepth 100000 in
set_option maxHeartbeats 1000000 in
theorem write4 (b c q n i : Nat) (ws : List Int) (st : Int) (ms : List Mach) (M : Mach) (w : World) (hS : Sys w b c q n ws st ms) (hi : ms[i]? = some M) (ha : M.at_ + 2 < n) (s0 : 0 ≤ st) (s1 : st ≤ 1000000) (hn : M.next = 4 ∨ (M.next = 3 ∧ M.left = 0))  :
    Calls Try.prog 35 #[.pointer (some ⟨q, 15 * i, none⟩), .pointer (some ⟨b, 0, none⟩)] w fun e w' => e = .returned (.tuple #[]) ∧ Sys w' b c q n (ws.set (M.at_ + 2) M.B) (st + 1) (ms.set i ({ M with next := 5 })) ∧ Frq b c q w w' := by
  have HN := hide hn
  clear hn
  go_enter Try.func35, Try.ntmps35
  go_wp2_with fail
  go_step3
  go_wp2_with fail
  go_step3
  go_wp2_with fail
  go_loopw [] (fun wr => (wr = w ∧ M.next = 3 ∧ M.left = 0) ∨ (Sys wr b c q n ws st (ms.set i { M with next := 4 }) ∧ Frq b c q w wr)) (fun wr => (100 - intOf ((wr.cell? ⟨q, 15 * i + 10, none⟩).getD (.int .i64 0))).toNat)
  case atStart =>
    rcases unhide HN with h | h
    · refine .inr ⟨?_, Frq.refl _ _ _ _⟩
      have e1 : { M with next := 4 } = M := by cases M; simp only at h; subst h; rfl
      rw [e1]
      have e2 : ms.set i M = ms := by
        apply List.ext_getElem?
        intro j
        rw [List.getElem?_set]
        split
        · subst_vars; rw [hi]; simp [(List.getElem?_eq_some_iff.1 hi).1]
        · rfl
      rw [e2]
      exact hS
    · exact .inl ⟨rfl, h⟩
  case round =>
    clear HN
    rcases hrel with ⟨rfl, hn, hl⟩ | ⟨hS3, hF3⟩
    · obtain ⟨c0, c1, c2, c3, c4, c5, c6, c7, c8, c9, c10, c11, c12, c13, c14, fr⟩ := hS.cells hi
      have K2 := hide (enter_any b c q n i ws st ms M 4 wr hS hi)
      rw [hn] at c10
      rw [hl] at c11
      have C10 := hide c10
      clear hn hl
      generalize hp : 15 * i = p at *
      have HP := hide hp
      clear hp
      go_wp2_with fail
      refine (unhide K2).mono ?_
      rintro e w2 ⟨rfl, hS2, hF2⟩
      replace hS2 : Sys w2 b c q n ws st (ms.set i { M with next := 4 }) := hS2
      have C2 := (hS2.cells (set_get hi _)).c10
      clear c0 c1 c2 c3 c4 c5 c6 c7 c8 c9 c10 c11 c12 c13 c14 fr
      rw [unhide HP] at C2
      have D2 := hide C2
      clear C2
      go_wp2_with fail
      go_roundw
      case rel => exact .inr ⟨hS2, hF2⟩
      case measure =>
        have a1 := unhide C10
        have a2 := unhide D2
        (try rw [unhide HP])
        rw [a1, a2]
        simp [intOf]
    · have hi3 := set_get hi { M with next := 4 }
      generalize hM3 : ({ M with next := 4 } : Mach) = M3 at *
      have hn : M3.next = 4 := by rw [← hM3]
      have ha3 : M3.at_ = M.at_ := by rw [← hM3]
      have HM := hide hM3
      clear hM3
      obtain ⟨c0, c1, c2, c3, c4, c5, c6, c7, c8, c9, c10, c11, c12, c13, c14, fr⟩ := hS3.cells hi3
      rw [hn] at c10
      have HA := hide ha3
      clear hn ha3
      have hn64 := hS3.n64
      have K := hide (hS3.drew.store (M3.at_ + 2) (IntKind.i64.wrap ((M3.at_ : Int) + 2)) M3.B (by rw [unhide HA]; rw [wrap_small _ (by omega) (by omega)]; omega) (by rw [unhide HA]; omega) s0 s1)
      clear hn64 ha
      generalize hp : 15 * i = p at *
      have HP := hide hp
      clear hp
      go_wp2_with fail
      go_region_held3 (fun w' => w'.cell? ⟨q, p + 1, none⟩ = some (.int .i64 (M3.at_ : Int)) ∧ w'.cell? ⟨q, p + 4, none⟩ = some (.int .i64 M3.B)) (go_keep)
        (first | (go_at_call 26; refine (unhide K).mono ?_; rintro e w1 ⟨rfl, hS1, hF1⟩; have HC := hS1.cells hi3; rw [unhide HP] at HC; obtain ⟨d0, d1, d2, d3, d4, d5, d6, d7, d8, d9, d10, d11, d12, d13, d14, fd⟩ := HC))
      clear c0 c1 c2 c3 c4 c5 c6 c7 c8 c9 c10 c11 c12 c13 c14 fr
      have K2 := hide (enter_else b c q n i _ (st + 1) _ M3 5 w1 hS1 hi3 (by omega))
      rw [unhide HP] at K2
      go_wp2_with fail
      refine (unhide K2).mono ?_
      rintro e w2 ⟨rfl, hS2, hF2⟩
      go_wp2_with fail
      rw [Exit.noGoto_ret]
      refine bodyPost_ret (results_none rfl _ _ _) rfl ?_
      have e1 : M3.B = M.B := by rw [← unhide HM]
      rw [e1, unhide HA, ← unhide HM, List.set_set] at hS2
      exact ⟨rfl, hS2, (hF3.drew.trans hF1).trans hF2⟩
end Go.Proofs.Ytkgeapmafpeapaa
