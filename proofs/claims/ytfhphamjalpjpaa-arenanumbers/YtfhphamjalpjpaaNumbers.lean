/-
  ArenaNumbers answers true: some of the chapter's runs, with the errors' numbers. It holds with no condition.
-/
import Derived.Test.YtfhphamjalpjpaaSame
import Derived.ProofKit
import Derived.OpenShut
import Derived.ShutString
import Derived.ChangeOld
import Derived.Below
namespace Go.Proofs.Ytfhphamjalpjpaa.arenaNumbers
open Go.ChangeShapes Go.WideShapes Go.ChangeAt Go.RowKit
open Go.ChangeMaps (open_string shut_string)
set_option linter.unusedVariables false
attribute [local go_sem ↓] Go.wp_at_zero Go.wp_at_succ

theorem own : ownKnob Try.prog.godebug = none := by kernel_rfl
theorem laidOut : laidOutB Try.prog = true := by kernel_rfl

set_option maxRecDepth 100000 in
set_option maxHeartbeats 1000000 in
theorem walk (w : World) : Calls Try.prog 3 #[] w fun e w' => e = .returned (.bool true) ∧ Below w.heap.size w w' := by
  go_enter Try.func3, Try.ntmps3
  go_wp2_with fail
  refine (new_bad 0 (.inl (by omega)) w).mono ?_
  rintro e w' ⟨rfl, rfl⟩
  go_wp2_with fail
  refine (new_bad 65 (.inr (by omega)) w').mono ?_
  rintro e w ⟨rfl, rfl⟩
  go_wp2_with fail
  refine (new_good 3 (by omega) (by omega) w).mono ?_
  rintro e w0 ⟨c, d, rfl, hc, hd, hA0, hB⟩
  have hb : w.heap.size ≤ w.heap.size + 2 := by omega
  generalize w.heap.size + 2 = b at *
  replace hA0 : Ar w0 b c d 3 [(0, 0), (0, 0), (0, 0)] [0, 1, 2] 0 := hA0
  have hs0 := hB.size
  go_wp2_with fail
  refine (get_bad b c d 3 _ _ _ 0 0 14 1 w0 hA0 (.inr ⟨rfl, rfl, 0, 0, 0, rfl, rfl, by omega, by omega⟩) (by omega) (by omega)).mono ?_
  rintro e w1 ⟨rfl, hA1, hF1⟩
  replace hA1 : Ar w1 b c d 3 [(0, 0), (0, 0), (0, 0)] [0, 1, 2] 1 := hA1
  replace hB := hB.trans (hF1.below hb hc hd hs0)
  have hs1 := hB.size
  clear hs0 hA0 hF1
  go_wp2_with fail
  refine (get_bad b c d 3 _ _ _ 3 1 1 0 w1 hA1 (.inl ⟨rfl, rfl, .inr (by simp)⟩) (by omega) (by omega)).mono ?_
  rintro e w2 ⟨rfl, hA2, hF2⟩
  replace hA2 : Ar w2 b c d 3 [(0, 0), (0, 0), (0, 0)] [0, 1, 2] 1 := hA2
  replace hB := hB.trans (hF2.below hb hc hd hs1)
  have hs2 := hB.size
  clear hs1 hA1 hF2
  go_wp2_with fail
  refine (take_yes b c d 3 0 _ _ _ 7 0 0 w2 hA2 rfl (by omega) (by omega)).mono ?_
  rintro e w3 ⟨rfl, hA3, hF3⟩
  replace hA3 : Ar w3 b c d 3 [(1, 7), (0, 0), (0, 0)] [1, 2] 1 := hA3
  replace hB := hB.trans (hF3.below hb hc hd hs2)
  have hs3 := hB.size
  clear hs2 hA2 hF3
  obtain ⟨yh0, yh1, yhf⟩ := hcells (putAll (w := w3) (hObj 0 1) w3.heap.size rfl)
  go_wp2_with fail
  obtain ⟨w4, hx, kh, hK, hz⟩ := stored w3 0 1
  rw [hx]
  have hA4 := hA3.below hK
  have nh : w3.heap.size ≠ b ∧ w3.heap.size ≠ c ∧ w3.heap.size ≠ d := by have := hA3.lt; omega
  replace hB := hB.trans (hK.mono hs3)
  have hs4 := hB.size
  clear hx hK hz hA3 hs3
  generalize w3.heap.size = Bh at *
  clear yh0 yh1 yhf
  refine (set_ok b c d 3 0 _ _ _ 1 7 8 w4 hA4 rfl (by omega) (by omega)).mono ?_
  rintro e w5 ⟨rfl, hA5, hF5⟩
  replace hA5 : Ar w5 b c d 3 [(1, 8), (0, 0), (0, 0)] [1, 2] 1 := hA5
  replace hB := hB.trans (hF5.below hb hc hd hs4)
  replace kh := (hF5.block Bh (lt_of_heap kh) nh.1 nh.2.1 nh.2.2).trans kh
  have hs5 := hB.size
  clear hs4 hA4 hF5
  obtain ⟨yh0, yh1, yhf⟩ := hcells kh
  go_wp2_with fail
  clear yh0 yh1 yhf
  refine (get_ok b c d 3 0 _ _ _ 1 8 w5 hA5 rfl (by omega) (by omega)).mono ?_
  rintro e w6 ⟨rfl, hF6⟩
  have hA6 := hA5.below hF6
  replace hB := hB.trans (hF6.mono hs5)
  replace kh := (hF6.block Bh (lt_of_heap kh)).trans kh
  have hs6 := hB.size
  clear hs5 hA5 hF6
  obtain ⟨yh0, yh1, yhf⟩ := hcells kh
  go_wp2_with fail
  clear yh0 yh1 yhf
  refine (free_ok b c d 3 0 _ _ _ 1 8 w6 hA6 rfl (by omega) (by omega) (by omega) (by simp)).mono ?_
  rintro e w7 ⟨rfl, hA7, hF7⟩
  replace hA7 : Ar w7 b c d 3 [(2, 0), (0, 0), (0, 0)] [1, 2, 0] 1 := hA7
  replace hB := hB.trans (hF7.below hb hc hd hs6)
  replace kh := (hF7.block Bh (lt_of_heap kh) nh.1 nh.2.1 nh.2.2).trans kh
  have hs7 := hB.size
  clear hs6 hA6 hF7
  obtain ⟨yh0, yh1, yhf⟩ := hcells kh
  go_wp2_with fail
  clear yh0 yh1 yhf
  refine (free_bad b c d 3 _ _ _ 0 1 14 1 w7 hA7 (.inr ⟨rfl, rfl, 0, 2, 0, rfl, rfl, by omega, by omega⟩) (by omega) (by omega)).mono ?_
  rintro e w8 ⟨rfl, hA8, hF8⟩
  replace hA8 : Ar w8 b c d 3 [(2, 0), (0, 0), (0, 0)] [1, 2, 0] 2 := hA8
  replace hB := hB.trans (hF8.below hb hc hd hs7)
  replace kh := (hF8.block Bh (lt_of_heap kh) nh.1 nh.2.1 nh.2.2).trans kh
  have hs8 := hB.size
  clear hs7 hA7 hF8
  go_wp2_with fail
  refine (take_yes b c d 3 1 _ _ _ 1 0 0 w8 hA8 rfl (by omega) (by omega)).mono ?_
  rintro e w9 ⟨rfl, hA9, hF9⟩
  replace hA9 : Ar w9 b c d 3 [(2, 0), (1, 1), (0, 0)] [2, 0] 2 := hA9
  replace hB := hB.trans (hF9.below hb hc hd hs8)
  replace kh := (hF9.block Bh (lt_of_heap kh) nh.1 nh.2.1 nh.2.2).trans kh
  have hs9 := hB.size
  clear hs8 hA8 hF9
  obtain ⟨w10, hx, kj, hK, hz⟩ := stored w9 1 1
  go_wp2_with fail
  have hA10 := hA9.below hK
  have nj : w9.heap.size ≠ b ∧ w9.heap.size ≠ c ∧ w9.heap.size ≠ d := by have := hA9.lt; omega
  replace hB := hB.trans (hK.mono hs9)
  replace kh := (hK.block Bh (lt_of_heap kh)).trans kh
  have hs10 := hB.size
  clear hx hK hz hA9 hs9
  generalize w9.heap.size = Bj at *
  clear kh
  generalize hV : w10 = V at *
  have hA := hA10
  clear hA10
  have e3 : lives [(2, 0), (1, 1), (0, 0)] 3 = [(1, 1)] := by simp [lives]
  have K0 : Kp w Bj 1 1 V := ⟨hB, kj⟩
  have HST := hide (stale_any b c d 3 _ _ _ V.drew hA.drew)
  have HLF := hide (left_any b c d 3 _ _ _ V.drew hA.drew 2 rfl)
  have HLV := hide (live_kept w V.drew Bj b c d 3 1 1 1 1 _ _ _ K0.drew hA.drew (nn_cons (by omega) (nn_cons (by omega) (nn_cons (by omega) nn_nil))) e3)
  have HLW := hide (live_kept w (V.alloc (hObj 1 1)).drew Bj b c d 3 1 1 1 1 _ _ _ (K0.alloc _).drew (hA.alloc (hObj 1 1)).drew (nn_cons (by omega) (nn_cons (by omega) (nn_cons (by omega) nn_nil))) e3)
  obtain ⟨yj0, yj1, yjf⟩ := hcells kj
  have lj := lt_of_heap kj
  have HYV := hide (hcells (putAll (w := V) (hObj 1 1) V.heap.size rfl))
  clear kj hA hB e3 yjf hV K0
  go_region_held3 (fun w' => w'.cell? ⟨Bj, 0, none⟩ = some (.int .i64 1) ∧ w'.cell? ⟨Bj, 1, none⟩ = some (.int .i64 1)) (go_keep)
    (first
      | (go_at_call 13; refine (unhide HST).mono ?_; rintro e w' ⟨rfl, rfl⟩)
      | (go_at_call 14; refine (unhide HLF).mono ?_; rintro e w' ⟨rfl, rfl⟩)
      | (go_at_call 16; refine (unhide HLV).mono ?_; rintro e w' ⟨g5, cap5, rfl, j0, j1, HX⟩; have HS1 := hide (same_kept w (w'.alloc (hObj 1 1)) Bj g5 cap5 w'.heap.size 1 1 1 1 ((unhide HX).1.alloc _) ((World.cell?_alloc_past _ _ _ (unhide HX).2.2.2.1).trans (unhide HX).2.1) ((World.cell?_alloc_past _ _ _ (unhide HX).2.2.2.1).trans (unhide HX).2.2.1) (hcells (putAll (w := w') (hObj 1 1) w'.heap.size rfl)).1 (hcells (putAll (w := w') (hObj 1 1) w'.heap.size rfl)).2.1); have lj' := lt_of_heap (unhide HX).1.k; clear HX)
      | (go_at_call 16; refine (unhide HLW).mono ?_; rintro e w' ⟨g5, cap5, rfl, j0, j1, HX⟩; have HS1 := hide (same_kept w w' Bj g5 cap5 V.heap.size 1 1 1 1 (unhide HX).1 (unhide HX).2.1 (unhide HX).2.2.1 (((unhide HX).2.2.2.2.cell (p := ⟨V.heap.size, 0, none⟩) (by simp)).trans (unhide HYV).1) (((unhide HX).2.2.2.2.cell (p := ⟨V.heap.size, 1, none⟩) (by simp)).trans (unhide HYV).2.1)); clear HX)
      | (go_at_call 15; refine (unhide HS1).mono ?_; rintro e w6 ⟨rfl, k0, k1, HX6⟩)
      | (go_at_call 17; refine (known_kept w _ Bj 1 1 (unhide HX6)).mono ?_; rintro e w7 ⟨rfl, m0, m1, HX7⟩))
  all_goals go_wp2_with fail
  all_goals go_ret
  all_goals exact ⟨rfl, (unhide HX7).be⟩

set_option maxRecDepth 100000 in
theorem lifted (os : Os) (started : os.Started) (H : Type) (enc : TypeId × Value → H) :
    ReturnsInHanded {} Try.checked os 3 .any (Rows.arenaNumbersSpec.pre6 enc Try.prog Try.f3 Rows.arenaNumbersRow.domain false) (Rows.arenaNumbersSpec.post enc Try.prog Try.f3 false true false false) := by
  refine returnsInHanded_of_change (C := Try.checked) own started (by kernel_rfl) Try.func3
    (ChangeSpec.witness6 (enc := enc) (C := Try.checked) false ⟨#[], #[], []⟩ 8 (by kernel_rfl) (by kernel_rfl) (by kernel_rfl) (by kernel_rfl)) ?_
  intro W base args ds gs before hval0 hW hcnd _
  have hval : ∀ (j : Nat) t v, Try.f3.params[j]? = some t → args[j]? = some v → Value.okWide Try.prog W .any base t v := hval0
  have hW' := hW
  obtain ⟨p, q, hA0, hV, rfl, hfz, hnd⟩ := hW
  have hA : DataW.TrodAll enc Try.prog W 0 (fun _ => true) true Try.f3.params.toList args.toList ds p := hA0
  rw [Try.params3] at hA hval
  obtain ⟨rfl, rfl, rfl⟩ := trodAll_none hA
  obtain ⟨rfl, rfl⟩ := trodVars_none hV
  clear hA0 hval0
  simp only [List.append_nil] at hW'
  refine (walk  W).mono fun e W' ⟨he, hg⟩ => ?_
  subst he
  exact ⟨_, rfl, _, _, _, [], _, [], hW', trodAll_mk1 (shut_bool Try.underlying4 _), rfl, rfl, hg.frame _, fun h => by cases h⟩

theorem over : Rows.arenaNumbersRow.holds Try.pinned (OpenSpec.ofChange Rows.arenaNumbersSpec) :=
  OpenClaim.holds_of_wide 3 Try.f3 rfl rfl rfl rfl rfl rfl rfl ⟨rfl, rfl, rfl, rfl, rfl⟩ rfl rfl rfl rfl rfl (by kernel_rfl) Try.func3 (by kernel_rfl)
    (of_decide_eq_true (by kernel_rfl)) (by unfold Func.isWrapper; first | (rw [if_pos (by decide +kernel)]; kernel_rfl) | (rw [if_neg (by decide +kernel)]; exact ⟨rfl, rfl⟩))
    (fun os started H enc _ => lifted os started H enc)

end Go.Proofs.Ytfhphamjalpjpaa.arenaNumbers

namespace Go.Proofs.Ytfhphamjalpjpaa
/-- ArenaNumbers answers true. -/
theorem arenaNumbers_proved : Rows.ArenaNumbersSaid := arenaNumbers.over
#print axioms arenaNumbers_proved
end Go.Proofs.Ytfhphamjalpjpaa
