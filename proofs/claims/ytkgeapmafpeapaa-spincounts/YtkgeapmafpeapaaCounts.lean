/-
  SpinCounts: each access of a job is one step of the memory; a job that nobody disturbs is done behind just as many as its kind takes. No conditions.
-/
import Derived.Test.YtkgeapmafpeapaaLone
import Derived.ProofKit
import Derived.OpenShut
import Derived.ChangeOld
namespace Go.Proofs.Ytkgeapmafpeapaa.spinCounts
open Go.ChangeShapes Go.WideShapes Go.ChangeAt Go.RowKit
attribute [local go_sem ↓] Go.wp_at_zero Go.wp_at_succ
set_option linter.unusedVariables false

theorem own : ownKnob Try.prog.godebug = none := by kernel_rfl
theorem laidOut : laidOutB Try.prog = true := by kernel_rfl

set_option maxRecDepth 100000 in
set_option maxHeartbeats 1000000 in
theorem walk (a0 a1 a2 a3 : Int) (w : World) :
    Calls Try.prog 7 #[.int .i64 a0, .int .i64 a1, .int .i64 a2, .int .i64 a3] w fun e w' => e = .returned (.bool true) ∧ Below w.heap.size w w' := by
  go_enter Try.func7, Try.ntmps7
  go_wp2_with fail
  refine (within_any a0 2 _ (by omega) (by omega)).mono ?_
  rintro e w1 ⟨⟨r0, p0, p1, rfl⟩, rfl⟩
  go_wp2_with fail
  refine (within_any a1 100 _ (by omega) (by omega)).mono ?_
  rintro e w1 ⟨⟨wk, q0, q1, rfl⟩, rfl⟩
  obtain ⟨wn, rfl⟩ := Int.eq_ofNat_of_zero_le q0
  have hk : 1 + r0 = 1 ∨ 1 + r0 = 2 ∨ 1 + r0 = 3 := by omega
  have hk1 : 1 ≤ 1 + r0 := by omega
  have hk3 : 1 + r0 ≤ 3 := by omega
  go_wp2_with fail
  generalize 1 + r0 = k at *
  have HK := hide hk
  clear hk p0 p1
  refine (new3 _).mono ?_
  rintro e w2 ⟨rfl, hM2, hB2⟩
  have z2 := hB2.size
  generalize hh : w1.heap.size = h at *
  have HH := hide hh
  clear hh
  go_wp2_with fail
  have hJ : JobsAt (w2.alloc (.cells #[.int .i64 k, .int .i64 0, .int .i64 wn, .int .i64 a2, .int .i64 a3] 30)) (some ⟨w2.heap.size, 0, none⟩) [⟨k, 0, wn, a2, a3⟩] := JobsAt.of_rows (putAll _ _ rfl) (fun i v h => by simpa [rowsOf, Jb.row] using h)
  have hM3 := hM2.alloc (.cells #[.int .i64 k, .int .i64 0, .int .i64 wn, .int .i64 a2, .int .i64 a3] 30)
  have hB3 := hB2.alloc z2 (.cells #[.int .i64 k, .int .i64 0, .int .i64 wn, .int .i64 a2, .int .i64 a3] 30)
  have z3 : h ≤ (w2.alloc (.cells #[.int .i64 k, .int .i64 0, .int .i64 wn, .int .i64 a2, .int .i64 a3] 30)).heap.size := by simp; omega
  generalize w2.alloc (.cells #[.int .i64 k, .int .i64 0, .int .i64 wn, .int .i64 a2, .int .i64 a3] 30) = w3 at *
  refine (new_good (h + 1) h 3 _ 0 0 0 0 0 false [⟨k, 0, wn, a2, a3⟩] _ 1 w3 hM3 hJ (by simp) (by
    intro i j hj
    match i, hj with
    | 0, hj =>
      simp at hj; subst hj
      refine ⟨by simp, by simp; omega, by simp, ?_⟩
      rcases unhide HK with h | h | h
      · exact .inl ⟨h, by simp⟩
      · exact .inr ⟨.inl h, by simp⟩
      · exact .inr ⟨.inr h, by simp⟩) (by simp)).mono ?_
  rintro e w4 ⟨r, q, rfl, hr, hq, hR4, hB4⟩
  replace hR4 : Run w4 r (h + 1) h q 3 [0, 0, 0] 0 [loneM k wn a2 a3 0 0 0] := hR4
  have hB5 : Below h w1 w4 := hB3.trans (hB4.mono z3)
  have z4 : h ≤ w4.heap.size := by have := hB4.size; omega
  have z5 : h ≤ q := by omega
  clear hJ hM2 hM3 hB2 hB3 hB4 hr hq z3 z2
  go_wp2_with fail
  go_loopw [13, 14] (fun n i wr => ∃ (m : Nat) (M : Mach) (ws : List Int), n = .int .i64 m ∧ i = .int .i64 m ∧ Run wr r (h + 1) h q 3 ws m [M] ∧ Lone a2 a3 wn k m M ws ∧ Below h w1 wr) (fun _ i _ => 300 - (intOf i).toNat)
  case atStart => exact ⟨0, _, _, rfl, rfl, hR4, Lone.start (unhide HK), hB5⟩
  case round =>
    obtain ⟨m, M, ws, rfl, rfl, hR, hL, hB⟩ := hrel
    clear hR4 hB5 z4
    have hlt := hL.lt
    have hm : m < 110 := by unfold loneAll at hlt; split at hlt <;> (try split at hlt) <;> omega
    have hz : h ≤ wr.heap.size := by have := hB.size; rw [unhide HH] at this; exact this
    obtain ⟨hok, ht, hd⟩ := hL.ok (by omega)
    obtain ⟨t1, hnx⟩ := hL.step
    have HL := hide hlt
    have HX := hide hnx
    have HT1 := hide t1
    have HHd := hide hd
    have HHt := hide ht
    have HOK := hide hok
    clear hlt hnx t1 hd ht hok hL
    have m1 : (m : Int) < 300 := by omega
    have m2 : (m : Int) < 110 := by omega
    go_wp2_with fail
    refine (step_yes r (h + 1) h q 3 0 ws m [M] M wr hR rfl (unhide HHd) (by omega) (by omega) (unhide HOK) (by rw [unhide HHt]; omega)).mono ?_
    rintro e w5 ⟨rfl, hR5, hF5⟩
    have hB6 := hF5.belowAt hB (by omega) (Nat.le_refl _) z5 hz
    have z6 : h ≤ w5.heap.size := by have := hF5.size; omega
    unfold Mach.told
    have HT := hide (unhide HT1)
    generalize hs : M.step ws = N at *
    have HS := hide hs
    clear hs
    rw [unhide HT]
    replace hR5 : Run w5 r (h + 1) h q 3 N.2 (m + 1) [N.1] := hR5
    generalize hdn : N.1.done = dn at *
    have HDN := hide hdn
    clear hdn
    cases dn
    · go_wp2_with fail
      have hR6 := hR5.alloc (.cells #[.bool false, .int .i64 N.1.sA, .int .i64 N.1.sB, .int .i64 0] 33)
      have hB7 := hB6.alloc z6 (.cells #[.bool false, .int .i64 N.1.sA, .int .i64 N.1.sB, .int .i64 0] 33)
      have x0 := cell_of (putAll (w := w5) (.cells #[.bool false, .int .i64 N.1.sA, .int .i64 N.1.sB, .int .i64 0] 33) w5.heap.size rfl) 0
      have x3 := cell_of (putAll (w := w5) (.cells #[.bool false, .int .i64 N.1.sA, .int .i64 N.1.sB, .int .i64 0] 33) w5.heap.size rfl) 3
      generalize w5.alloc (.cells #[.bool false, .int .i64 N.1.sA, .int .i64 N.1.sB, .int .i64 0] 33) = w6 at *
      simp at x0 x3
      generalize w5.heap.size = g at *
      refine (hR6.steps).mono ?_
      rintro e w7 ⟨rfl, rfl⟩
      go_wp2_with fail
      go_roundw
      case rel =>
        rcases unhide HX with ⟨h1, _⟩ | ⟨h1, h2⟩
        · cases h1
        · exact ⟨m + 1, N.1, N.2, by go_num, by go_num, hR6, h2, hB7⟩
      case measure => simp [intOf]; omega
    · have hall : m + 1 = loneAll k wn := by
        rcases unhide HX with ⟨_, h1⟩ | ⟨h1, h2⟩
        · exact h1
        · cases h1
      have HALL := hide hall
      clear hall
      go_wp2_with fail
      have hR6 := hR5.alloc (.cells #[.bool true, .int .i64 N.1.sA, .int .i64 N.1.sB, .int .i64 0] 33)
      have hB7 := hB6.alloc z6 (.cells #[.bool true, .int .i64 N.1.sA, .int .i64 N.1.sB, .int .i64 0] 33)
      have z8 : h ≤ (w5.alloc (.cells #[.bool true, .int .i64 N.1.sA, .int .i64 N.1.sB, .int .i64 0] 33)).heap.size := by simp; omega
      have x0 := cell_of (putAll (w := w5) (.cells #[.bool true, .int .i64 N.1.sA, .int .i64 N.1.sB, .int .i64 0] 33) w5.heap.size rfl) 0
      have x3 := cell_of (putAll (w := w5) (.cells #[.bool true, .int .i64 N.1.sA, .int .i64 N.1.sB, .int .i64 0] 33) w5.heap.size rfl) 3
      generalize w5.alloc (.cells #[.bool true, .int .i64 N.1.sA, .int .i64 N.1.sB, .int .i64 0] 33) = w6 at *
      simp at x0 x3
      generalize w5.heap.size = g at *
      refine (hR6.steps).mono ?_
      rintro e w7 ⟨rfl, rfl⟩
      rcases unhide HK with rfl | rfl | rfl
      · have he : ((m : Int) + 1 == 2 + (wn : Int)) = true := by have := unhide HALL; simp [loneAll] at this; simp; omega
        go_wp2_with fail
        refine (known_true _).mono ?_
        rintro e w8 ⟨rfl, hB8⟩
        go_wp2_with fail
        go_ret
        exact ⟨rfl, by rw [unhide HH]; exact (hB7.alloc z8 _).trans (hB8.mono (by simp; omega))⟩
      · have he : ((m : Int) + 1 == 5 + (wn : Int)) = true := by have := unhide HALL; simp [loneAll] at this; simp; omega
        go_wp2_with fail
        refine (known_true _).mono ?_
        rintro e w8 ⟨rfl, hB8⟩
        go_wp2_with fail
        go_ret
        exact ⟨rfl, by rw [unhide HH]; exact (hB7.alloc z8 _).trans (hB8.mono (by simp; omega))⟩
      · have he : ((m : Int) + 1 == 4 + (wn : Int)) = true := by have := unhide HALL; simp [loneAll] at this; simp; omega
        go_wp2_with fail
        refine (known_true _).mono ?_
        rintro e w8 ⟨rfl, hB8⟩
        go_wp2_with fail
        go_ret
        exact ⟨rfl, by rw [unhide HH]; exact (hB7.alloc z8 _).trans (hB8.mono (by simp; omega))⟩

set_option maxRecDepth 100000 in
theorem lifted (os : Os) (started : os.Started) (H : Type) (enc : TypeId × Value → H) :
    ReturnsInHanded {} Try.checked os 7 .any (Rows.spinCountsSpec.pre6 enc Try.prog Try.f7 Rows.spinCountsRow.domain false) (Rows.spinCountsSpec.post enc Try.prog Try.f7 false true false false) := by
  refine returnsInHanded_of_change (C := Try.checked) own started (by kernel_rfl) Try.func7
    (ChangeSpec.witness6 (enc := enc) (C := Try.checked) false ⟨#[], #[.int .i64 0, .int .i64 0, .int .i64 0, .int .i64 0], []⟩ 8 (by kernel_rfl) (by kernel_rfl) (by kernel_rfl) (by kernel_rfl)) ?_
  intro W base args ds gs before hval0 hW hcnd _
  have hval : ∀ (j : Nat) t v, Try.f7.params[j]? = some t → args[j]? = some v → Value.okWide Try.prog W .any base t v := hval0
  have hW' := hW
  obtain ⟨p, q, hA0, hV, rfl, hfz, hnd⟩ := hW
  have hA : DataW.TrodAll enc Try.prog W 0 (fun _ => true) true Try.f7.params.toList args.toList ds p := hA0
  rw [Try.params7] at hA hval
  obtain ⟨v0, vs0, d0, ds0, p0, q0, hargs, rfl, rfl, h0, r0⟩ := trodAll_cons hA
  obtain ⟨v1, vs1, d1, ds1, p1, q1, rfl, rfl, rfl, h1, r1⟩ := trodAll_cons r0
  obtain ⟨v2, vs2, d2, ds2, p2, q2, rfl, rfl, rfl, h2, r2⟩ := trodAll_cons r1
  obtain ⟨v3, vs3, d3, ds3, p3, q3, rfl, rfl, rfl, h3, r3⟩ := trodAll_cons r2
  obtain ⟨rfl, rfl, rfl⟩ := trodAll_nil r3
  obtain rfl : args = #[v0, v1, v2, v3] := by cases args; simp_all
  obtain ⟨rfl, rfl⟩ := trodVars_none hV
  obtain ⟨a0, rfl, rfl, rfl, w0⟩ := open_int Try.underlying3 (hval 0 3 v0 rfl rfl) h0
  obtain ⟨a1, rfl, rfl, rfl, w1⟩ := open_int Try.underlying3 (hval 1 3 v1 rfl rfl) h1
  obtain ⟨a2, rfl, rfl, rfl, w2⟩ := open_int Try.underlying2 (hval 2 2 v2 rfl rfl) h2
  obtain ⟨a3, rfl, rfl, rfl, w3⟩ := open_int Try.underlying2 (hval 3 2 v3 rfl rfl) h3
  clear hA0 hval0
  simp only [List.append_nil] at hW'
  refine (walk a0 a1 a2 a3 W).mono fun e W' ⟨he, hg⟩ => ?_
  subst he
  exact ⟨_, rfl, _, _, _, [], _, [], hW', trodAll_mk1 (shut_bool Try.underlying4 _), (trodAll_cons_mk (shut_int Try.underlying3 w0) (trodAll_cons_mk (shut_int Try.underlying3 w1) (trodAll_cons_mk (shut_int Try.underlying2 w2) (trodAll_cons_mk (shut_int Try.underlying2 w3) trodAll_mk0)))), rfl, hg.frame _, fun h => by cases h⟩

theorem over : Rows.spinCountsRow.holds Try.pinned (OpenSpec.ofChange Rows.spinCountsSpec) :=
  OpenClaim.holds_of_wide 7 Try.f7 rfl rfl rfl rfl rfl rfl rfl ⟨rfl, rfl, rfl, rfl, rfl⟩ rfl rfl rfl rfl rfl (by kernel_rfl) Try.func7 (by kernel_rfl)
    (of_decide_eq_true (by kernel_rfl)) (by unfold Func.isWrapper; first | (rw [if_pos (by decide +kernel)]; kernel_rfl) | (rw [if_neg (by decide +kernel)]; exact ⟨rfl, rfl⟩))
    (fun os started H enc _ => lifted os started H enc)

end Go.Proofs.Ytkgeapmafpeapaa.spinCounts

namespace Go.Proofs.Ytkgeapmafpeapaa
/-- SpinCounts answers true. -/
theorem spinCounts_proved : Rows.SpinCountsSaid := spinCounts.over
#print axioms spinCounts_proved
end Go.Proofs.Ytkgeapmafpeapaa
