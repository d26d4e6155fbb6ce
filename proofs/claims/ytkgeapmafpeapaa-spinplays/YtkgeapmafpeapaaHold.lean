/-
  The contract of a holder's step.
-/
import Derived.Test.YtkgeapmafpeapaaMach
import Derived.WalkMore
namespace Go.Proofs.Ytkgeapmafpeapaa
open Go.RowKit
attribute [local go_sem ↓] Go.wp_at_zero Go.wp_at_succ

set_option maxHeartbeats 400000 in
theorem counted_e (b c q n i : Nat) (ws : List Int) (st nx : Int) (ms : List Mach) (M : Mach) (w : World) (hS : Sys w b c q n ws st ms) (hi : ms[i]? = some M) (ha : M.at_ < n) (s0 : 0 ≤ st) (s1 : st ≤ 1000000) (hn : ¬ nx = 3) (he : (ws.getD M.at_ 0).tmod 2 = 0) :
    Calls Try.prog 47 #[.pointer (some ⟨q, 15 * i, none⟩), .pointer (some ⟨b, 0, none⟩), .int .i64 nx] w fun e w' => e = .returned (.tuple #[]) ∧ Sys w' b c q n ws (st + 1) (ms.set i { M with count := ws.getD M.at_ 0, next := nx }) ∧ Frq b c q w w' := by
  have K := hide (loaded_any b c q n M.at_ ws st _ ms w hS rfl ha s0 s1 _ rfl)
  obtain ⟨c0, c1, c2, c3, c4, c5, c6, c7, c8, c9, c10, c11, c12, c13, c14, fr⟩ := hS.cells hi
  generalize ws.getD M.at_ 0 = held at *
  have he1 : (held.tmod 2 == 0) = true := by simp [he]
  clear he
  generalize hp : 15 * i = p at *
  have HP := hide hp
  clear hp
  go_enter Try.func47, Try.ntmps47
  go_wp2_with fail
  refine (unhide K).mono ?_
  rintro e w1 ⟨rfl, hS1, hF1⟩
  have R2 := hS1.put hi 12 (by omega) (.int .i64 held) { M with count := held } rfl
  have F2 := hF1.set (15 * i + 12) (.int .i64 held)
  have K2 := hide (enter_else b c q n i ws (st + 1) _ _ nx _ R2 (set_get hi _) hn)
  obtain ⟨d0, d1, d2, d3, d4, d5, d6, d7, d8, d9, d10, d11, d12, d13, d14, fd⟩ := hS1.cells hi
  rw [unhide HP] at d0 d1 d2 d3 d4 d5 d6 d7 d8 d9 d10 d11 d12 d13 d14 K2
  have F := hide F2
  clear R2 F2 c0 c1 c2 c3 c4 c5 c6 c7 c8 c9 c10 c11 c12 c13 c14 fr
  go_wp2_with fail
  refine (unhide K2).mono ?_
  rintro e w' ⟨rfl, hS', hF'⟩
  go_wp2
  go_end0
  rw [List.set_set] at hS'
  have F2 := unhide F
  rw [unhide HP] at F2
  exact ⟨rfl, hS', F2.trans hF'⟩
set_option maxHeartbeats 400000 in
theorem counted_o (b c q n i : Nat) (ws : List Int) (st nx : Int) (ms : List Mach) (M : Mach) (w : World) (hS : Sys w b c q n ws st ms) (hi : ms[i]? = some M) (ha : M.at_ < n) (s0 : 0 ≤ st) (s1 : st ≤ 1000000) (t0 : 0 ≤ M.tries) (t1 : M.tries ≤ 1000000) (he : ¬ (ws.getD M.at_ 0).tmod 2 = 0) :
    Calls Try.prog 47 #[.pointer (some ⟨q, 15 * i, none⟩), .pointer (some ⟨b, 0, none⟩), .int .i64 nx] w fun e w' => e = .returned (.tuple #[]) ∧ Sys w' b c q n ws (st + 1) (ms.set i { M with count := ws.getD M.at_ 0, tries := M.tries + 1, next := 0 }) ∧ Frq b c q w w' := by
  have K := hide (loaded_any b c q n M.at_ ws st _ ms w hS rfl ha s0 s1 _ rfl)
  obtain ⟨c0, c1, c2, c3, c4, c5, c6, c7, c8, c9, c10, c11, c12, c13, c14, fr⟩ := hS.cells hi
  generalize ws.getD M.at_ 0 = held at *
  have he1 : (held.tmod 2 == 0) = false := by simp [he]
  clear he
  generalize hp : 15 * i = p at *
  have HP := hide hp
  clear hp
  go_enter Try.func47, Try.ntmps47
  go_wp2_with fail
  refine (unhide K).mono ?_
  rintro e w1 ⟨rfl, hS1, hF1⟩
  have R2 := hS1.put hi 12 (by omega) (.int .i64 held) { M with count := held } rfl
  have F2 := hF1.set (15 * i + 12) (.int .i64 held)
  have K2 := hide (again_any b c q n i ws (st + 1) _ _ _ R2 (set_get hi _) t0 t1)
  obtain ⟨d0, d1, d2, d3, d4, d5, d6, d7, d8, d9, d10, d11, d12, d13, d14, fd⟩ := hS1.cells hi
  rw [unhide HP] at d0 d1 d2 d3 d4 d5 d6 d7 d8 d9 d10 d11 d12 d13 d14 K2
  have F := hide F2
  clear R2 F2 c0 c1 c2 c3 c4 c5 c6 c7 c8 c9 c10 c11 c12 c13 c14 fr
  go_wp2_with fail
  refine (unhide K2).mono ?_
  rintro e w' ⟨rfl, hS', hF'⟩
  go_wp2
  go_end0
  rw [List.set_set] at hS'
  have F2 := unhide F
  rw [unhide HP] at F2
  exact ⟨rfl, hS', F2.trans hF'⟩


set_option maxRecDepth 100000 in
set_option maxHeartbeats 600000 in
theorem hold0y (b c q n i : Nat) (ws : List Int) (st : Int) (ms : List Mach) (M : Mach) (w : World) (hS : Sys w b c q n ws st ms) (hi : ms[i]? = some M) (ha : M.at_ < n) (s0 : 0 ≤ st) (s1 : st ≤ 1000000) (hn : M.next = 0) (hv : ws.getD M.at_ 0 = 0) :
    Calls Try.prog 34 #[.pointer (some ⟨q, 15 * i, none⟩), .pointer (some ⟨b, 0, none⟩)] w fun e w' => e = .returned (.tuple #[]) ∧ Sys w' b c q n (ws.set M.at_ M.mark) (st + 1) (ms.set i (M.enter 3)) ∧ Frq b c q w w' := by
  have K := hide (swapped_y b c q n M.at_ ws st 0 M.mark ms w.drew hS.drew ha s0 s1 hv)
  clear hv
  obtain ⟨c0, c1, c2, c3, c4, c5, c6, c7, c8, c9, c10, c11, c12, c13, c14, fr⟩ := hS.cells hi
  rw [hn] at c10
  clear hn
  generalize hp : 15 * i = p at *
  have HP := hide hp
  clear hp
  go_enter Try.func34, Try.ntmps34
  go_wp2_with fail
  go_step3
  go_wp2_with fail
  go_step3
  go_wp2_with fail
  go_loopw [] (fun wr => wr = w) (fun _ => 0)
  case atStart => rfl
  case round =>
    subst hrel
    go_wp2_with fail
    go_region_held3 (fun w' => w'.cell? ⟨q, p + 1, none⟩ = some (.int .i64 (M.at_ : Int)) ∧ w'.cell? ⟨q, p + 5, none⟩ = some (.int .i64 M.mark)) (go_keep)
      (first | (go_at_call 43; refine (unhide K).mono ?_; rintro e w1 ⟨rfl, hS1, hF1⟩; have HC := hS1.cells hi; rw [unhide HP] at HC; obtain ⟨d0, d1, d2, d3, d4, d5, d6, d7, d8, d9, d10, d11, d12, d13, d14, fd⟩ := HC))
    clear c0 c1 c2 c3 c4 c5 c6 c7 c8 c9 c10 c11 c12 c13 c14 fr
    have K2 := hide (enter_any b c q n i _ (st + 1) ms M 3 w1 hS1 hi)
    rw [unhide HP] at K2
    go_wp2_with fail
    refine (unhide K2).mono ?_
    rintro e w2 ⟨rfl, hS2, hF2⟩
    go_wp2_with fail
    rw [Exit.noGoto_ret]
    refine bodyPost_ret (results_none rfl _ _ _) rfl ?_
    exact ⟨rfl, hS2, ((Frq.refl b c q wr).drew.trans hF1).trans hF2⟩

set_option maxRecDepth 100000 in
set_option maxHeartbeats 600000 in
theorem hold0n (b c q n i : Nat) (ws : List Int) (st : Int) (ms : List Mach) (M : Mach) (w : World) (hS : Sys w b c q n ws st ms) (hi : ms[i]? = some M) (ha : M.at_ < n) (s0 : 0 ≤ st) (s1 : st ≤ 1000000) (hn : M.next = 0) (hv : ¬ ws.getD M.at_ 0 = 0) (t0 : 0 ≤ M.tries) (t1 : M.tries ≤ 1000000) :
    Calls Try.prog 34 #[.pointer (some ⟨q, 15 * i, none⟩), .pointer (some ⟨b, 0, none⟩)] w fun e w' => e = .returned (.tuple #[]) ∧ Sys w' b c q n (ws) (st + 1) (ms.set i (M.again)) ∧ Frq b c q w w' := by
  have K := hide (swapped_n b c q n M.at_ ws st 0 M.mark ms w.drew hS.drew ha s0 s1 hv)
  clear hv
  obtain ⟨c0, c1, c2, c3, c4, c5, c6, c7, c8, c9, c10, c11, c12, c13, c14, fr⟩ := hS.cells hi
  rw [hn] at c10
  clear hn
  generalize hp : 15 * i = p at *
  have HP := hide hp
  clear hp
  go_enter Try.func34, Try.ntmps34
  go_wp2_with fail
  go_step3
  go_wp2_with fail
  go_step3
  go_wp2_with fail
  go_loopw [] (fun wr => wr = w) (fun _ => 0)
  case atStart => rfl
  case round =>
    subst hrel
    go_wp2_with fail
    go_region_held3 (fun w' => w'.cell? ⟨q, p + 1, none⟩ = some (.int .i64 (M.at_ : Int)) ∧ w'.cell? ⟨q, p + 5, none⟩ = some (.int .i64 M.mark)) (go_keep)
      (first | (go_at_call 43; refine (unhide K).mono ?_; rintro e w1 ⟨rfl, hS1, hF1⟩; have HC := hS1.cells hi; rw [unhide HP] at HC; obtain ⟨d0, d1, d2, d3, d4, d5, d6, d7, d8, d9, d10, d11, d12, d13, d14, fd⟩ := HC))
    clear c0 c1 c2 c3 c4 c5 c6 c7 c8 c9 c10 c11 c12 c13 c14 fr
    have K2 := hide (again_any b c q n i _ (st + 1) ms M w1 hS1 hi t0 t1)
    rw [unhide HP] at K2
    go_wp2_with fail
    refine (unhide K2).mono ?_
    rintro e w2 ⟨rfl, hS2, hF2⟩
    go_wp2_with fail
    rw [Exit.noGoto_ret]
    refine bodyPost_ret (results_none rfl _ _ _) rfl ?_
    exact ⟨rfl, hS2, ((Frq.refl b c q wr).drew.trans hF1).trans hF2⟩

set_option maxRecDepth 100000 in
set_option maxHeartbeats 600000 in
theorem hold3 (b c q n i : Nat) (ws : List Int) (st : Int) (ms : List Mach) (M : Mach) (w : World) (hS : Sys w b c q n ws st ms) (hi : ms[i]? = some M) (ha : M.at_ < n) (s0 : 0 ≤ st) (s1 : st ≤ 1000000) (hn : M.next = 3) (hl : ¬ M.left = 0) (l0 : 0 ≤ M.left) (l1 : M.left ≤ 100) :
    Calls Try.prog 34 #[.pointer (some ⟨q, 15 * i, none⟩), .pointer (some ⟨b, 0, none⟩)] w fun e w' => e = .returned (.tuple #[]) ∧ Sys w' b c q n (ws) (st + 1) (ms.set i (M.toil)) ∧ Frq b c q w w' := by
  have K := hide (toil_any b c q n i ws st ms M w hS hi ha s0 s1 l0 l1)
  have hl1 : (M.left == 0) = false := by simp [hl]
  clear hl
  obtain ⟨c0, c1, c2, c3, c4, c5, c6, c7, c8, c9, c10, c11, c12, c13, c14, fr⟩ := hS.cells hi
  rw [hn] at c10
  clear hn
  generalize hp : 15 * i = p at *
  have HP := hide hp
  clear hp
  go_enter Try.func34, Try.ntmps34
  go_wp2_with fail
  go_step3
  go_wp2_with fail
  go_step3
  go_wp2_with fail
  go_loopw [] (fun wr => wr = w) (fun _ => 0)
  case atStart => rfl
  case round =>
    subst hrel
    go_wp2_with fail
    refine (unhide K).mono ?_
    rintro e w2 ⟨rfl, hS2, hF2⟩
    go_wp2_with fail
    rw [Exit.noGoto_ret]
    refine bodyPost_ret (results_none rfl _ _ _) rfl ?_
    exact ⟨rfl, hS2, hF2⟩

set_option maxRecDepth 100000 in
set_option maxHeartbeats 1000000 in
theorem hold5 (b c q n i : Nat) (ws : List Int) (st : Int) (ms : List Mach) (M : Mach) (w : World) (hS : Sys w b c q n ws st ms) (hi : ms[i]? = some M) (ha : M.at_ < n) (s0 : 0 ≤ st) (s1 : st ≤ 1000000) (hn : M.next = 5 ∨ (M.next = 3 ∧ M.left = 0))  :
    Calls Try.prog 34 #[.pointer (some ⟨q, 15 * i, none⟩), .pointer (some ⟨b, 0, none⟩)] w fun e w' => e = .returned (.tuple #[]) ∧ Sys w' b c q n (ws.set M.at_ 0) (st + 1) (ms.set i ({ M with next := 5, done := true })) ∧ Frq b c q w w' := by
  have HN := hide hn
  clear hn
  go_enter Try.func34, Try.ntmps34
  go_wp2_with fail
  go_step3
  go_wp2_with fail
  go_step3
  go_wp2_with fail
  go_loopw [] (fun wr => (wr = w ∧ M.next = 3 ∧ M.left = 0) ∨ (Sys wr b c q n ws st (ms.set i { M with next := 5 }) ∧ Frq b c q w wr)) (fun wr => (100 - intOf ((wr.cell? ⟨q, 15 * i + 10, none⟩).getD (.int .i64 0))).toNat)
  case atStart =>
    rcases unhide HN with h | h
    · refine .inr ⟨?_, Frq.refl _ _ _ _⟩
      have e1 : { M with next := 5 } = M := by cases M; simp only at h; subst h; rfl
      rw [e1]
      have e2 : ms.set i M = ms := by
        apply List.ext_getElem?
        intro j
        rw [List.getElem?_set]
        split
        · subst_vars; rw [hi]; simp [(List.getElem?_eq_some_iff.1 hi).1]
        · rfl
      rw [e2]
      exact hS
    · exact .inl ⟨rfl, h⟩
  case round =>
    clear HN
    rcases hrel with ⟨rfl, hn, hl⟩ | ⟨hS3, hF3⟩
    · obtain ⟨c0, c1, c2, c3, c4, c5, c6, c7, c8, c9, c10, c11, c12, c13, c14, fr⟩ := hS.cells hi
      have K2 := hide (enter_any b c q n i ws st ms M 5 wr hS hi)
      rw [hn] at c10
      rw [hl] at c11
      have C10 := hide c10
      clear hn hl
      generalize hp : 15 * i = p at *
      have HP := hide hp
      clear hp
      go_wp2_with fail
      refine (unhide K2).mono ?_
      rintro e w2 ⟨rfl, hS2, hF2⟩
      replace hS2 : Sys w2 b c q n ws st (ms.set i { M with next := 5 }) := hS2
      have C2 := (hS2.cells (set_get hi _)).c10
      clear c0 c1 c2 c3 c4 c5 c6 c7 c8 c9 c10 c11 c12 c13 c14 fr
      rw [unhide HP] at C2
      have D2 := hide C2
      clear C2
      go_wp2_with fail
      go_roundw
      case rel => exact .inr ⟨hS2, hF2⟩
      case measure =>
        have a1 := unhide C10
        have a2 := unhide D2
        (try rw [unhide HP])
        rw [a1, a2]
        simp [intOf]
    · have hi3 := set_get hi { M with next := 5 }
      generalize hM3 : ({ M with next := 5 } : Mach) = M3 at *
      have hn : M3.next = 5 := by rw [← hM3]
      have ha3 : M3.at_ = M.at_ := by rw [← hM3]
      have HM := hide hM3
      clear hM3
      obtain ⟨c0, c1, c2, c3, c4, c5, c6, c7, c8, c9, c10, c11, c12, c13, c14, fr⟩ := hS3.cells hi3
      rw [hn] at c10
      have HA := hide ha3
      clear hn ha3
      have K := hide (hS3.store M3.at_ _ 0 rfl (by rw [unhide HA]; exact ha) s0 s1)
      generalize hp : 15 * i = p at *
      have HP := hide hp
      clear hp
      go_wp2_with fail
      refine (unhide K).mono ?_
      rintro e w1 ⟨rfl, hS1, hF1⟩
      have R2 := hS1.put hi3 6 (by omega) (.bool true) { M3 with done := true } rfl
      have F2 := hF1.set (15 * i + 6) (.bool true)
      obtain ⟨d0, d1, d2, d3, d4, d5, d6, d7, d8, d9, d10, d11, d12, d13, d14, fd⟩ := hS1.cells hi3
      rw [unhide HP] at d0 d1 d2 d3 d4 d5 d6 d7 d8 d9 d10 d11 d12 d13 d14 R2 F2
      have F := hide F2
      have R := hide R2
      clear R2 F2
      go_wp2_with fail
      rw [Exit.noGoto_ret]
      refine bodyPost_ret (results_none rfl _ _ _) rfl ?_
      have r := unhide R
      rw [unhide HA, ← unhide HM, List.set_set] at r
      exact ⟨rfl, r, hF3.trans (unhide F)⟩
end Go.Proofs.Ytkgeapmafpeapaa
