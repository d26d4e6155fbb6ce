/-
  GraceNumbers answers true: some of the chapter's runs, with the errors' numbers. It holds with no condition.
-/
import Derived.Test.YtkgcgfnleabkdaaKeep
import Derived.ProofKit
import Derived.OpenShut
import Derived.ShutString
import Derived.ChangeOld
import Derived.Below
namespace Go.Proofs.Ytkgcgfnleabkdaa.graceNumbers
open Go.ChangeShapes Go.WideShapes Go.ChangeAt Go.RowKit
open Go.ChangeMaps (open_string shut_string)
set_option linter.unusedVariables false
attribute [local go_sem ↓] Go.wp_at_zero Go.wp_at_succ

theorem own : ownKnob Try.prog.godebug = none := by kernel_rfl
theorem laidOut : laidOutB Try.prog = true := by kernel_rfl

set_option maxRecDepth 100000 in
set_option maxHeartbeats 1000000 in
theorem walk (w : World) : Calls Try.prog 3 #[] w fun e w' => e = .returned (.bool true) ∧ Below w.heap.size w w' := by
  go_enter Try.func3, Try.ntmps3
  go_wp2_with fail
  refine (new_bad 0 (.inl (by omega)) w).mono ?_
  rintro e w' ⟨rfl, rfl⟩
  go_wp2_with fail
  refine (new_bad 9 (.inr (by omega)) w').mono ?_
  rintro e w ⟨rfl, rfl⟩
  go_wp2_with fail
  refine (new_good 3 (by omega) (by omega) w).mono ?_
  rintro e w1 ⟨rfl, G1, hB1⟩
  generalize hh : w.heap.size = h at *
  have HH := hide hh
  clear hh
  go_wp2_with fail
  refine (defer_ok h (h + 1) h 3 7 _ [] w1 G1 (by simp)).mono ?_
  rintro e w2 ⟨rfl, G2, F2⟩
  have z2 : none8 (ins (List.replicate 3 0)) = true := by decide
  rw [z2]
  go_wp2_with fail
  refine (enter_yes h (h + 1) h 3 0 0 _ _ w2 G2 rfl (by omega) (by omega)).mono ?_
  rintro e w3 ⟨rfl, G3, F3⟩
  go_wp2_with fail
  refine (poll_all h (h + 1) h 3 _ _ w3 G3 (by decide)).mono ?_
  rintro e w4 ⟨vc, rfl, oc, G4, F4⟩
  replace oc : w4.ownsRow (h + 2) 2 1 vc 1 (ints [7]) := own_base oc (by have := G3.lt; omega)
  replace G4 : Gr h w4 (h + 1) h 3 [1, 0, 0] [] := G4.to rfl rfl
  go_wp2_with fail
  refine (leave_past h (h + 1) h 3 1 _ _ w4 G4 rfl).mono ?_
  rintro e w4' ⟨rfl, rfl⟩
  go_wp2_with fail
  refine (enter_no h (h + 1) h 3 3 _ _ w4' G4 (.inr (by omega))).mono ?_
  rintro e w4 ⟨rfl, rfl⟩
  go_wp2_with fail
  refine (enter_yes h (h + 1) h 3 0 1 _ _ w4 G4 rfl (by omega) (by omega)).mono ?_
  rintro e w5 ⟨rfl, G5, F5⟩
  replace G5 : Gr h w5 (h + 1) h 3 [2, 0, 0] [] := G5.to rfl rfl
  replace oc := own_fr F5 oc (by decide) (by omega) (by omega)
  go_wp2_with fail
  refine (defer_ok h (h + 1) h 3 8 _ [] w5 G5 (by simp)).mono ?_
  rintro e w6 ⟨rfl, G6, F6⟩
  replace G6 : Gr h w6 (h + 1) h 3 [2, 0, 0] [⟨8, ins [2, 0, 0]⟩] := G6
  replace oc := own_fr F6 oc (by decide) (by omega) (by omega)
  go_wp2_with fail
  refine (leave_deep h (h + 1) h 3 0 2 _ _ w6 G6 rfl (by omega) (by omega)).mono ?_
  rintro e w7 ⟨rfl, G7, F7⟩
  replace G7 : Gr h w7 (h + 1) h 3 [1, 0, 0] [⟨8, ins [2, 0, 0]⟩] := G7.to rfl rfl
  replace oc := own_fr F7 oc (by decide) (by omega) (by omega)
  go_wp2_with fail
  refine (blocks_all h (h + 1) h 3 8 _ _ w7 G7 (by decide)).mono ?_
  rintro e w8 ⟨vh, rfl, oh, B8⟩
  replace oh : w8.ownsRow (h + 2) 3 1 vh 1 (ints [0]) := own_base oh (by have := G7.lt; omega)
  replace oc := own_below B8 oc
  have G8 := G7.below B8
  go_wp2_with fail
  refine (poll_all h (h + 1) h 3 _ _ w8 G8 (by decide)).mono ?_
  rintro e w9 ⟨vi, rfl, oi, G9, F9⟩
  replace oi : w9.ownsRow w8.heap.size 2 1 vi 0 [] := oi
  obtain ⟨ai, ci, rfl⟩ := own_form oi
  replace G9 : Gr h w9 (h + 1) h 3 [1, 0, 0] [⟨8, ins [2, 0, 0]⟩] := G9.to rfl rfl
  replace oc := own_fr F9 oc (by decide) (by omega) (by omega)
  replace oh := own_fr F9 oh (by decide) (by omega) (by omega)
  go_wp2_with fail
  refine (leave_out h (h + 1) h 3 0 _ _ w9 G9 (by decide) rfl).mono ?_
  rintro e w10 ⟨rfl, G10, F10⟩
  replace oc := own_fr F10 oc (by decide) (by omega) (by omega)
  replace oh := own_fr F10 oh (by decide) (by omega) (by omega)
  go_wp2_with fail
  refine (enter_yes h (h + 1) h 3 0 0 _ _ w10 G10 rfl (by omega) (by omega)).mono ?_
  rintro e w11 ⟨rfl, G11, F11⟩
  replace G11 : Gr h w11 (h + 1) h 3 [1, 0, 0] [clr 0 ⟨8, ins [2, 0, 0]⟩] := G11.to rfl rfl
  replace oc := own_fr F11 oc (by decide) (by omega) (by omega)
  replace oh := own_fr F11 oh (by decide) (by omega) (by omega)
  go_wp2_with fail
  refine (blocks_all h (h + 1) h 3 8 _ _ w11 G11 (by decide)).mono ?_
  rintro e w12 ⟨vj, rfl, oj, B12⟩
  replace oj : w12.ownsRow w11.heap.size 3 1 vj 0 [] := oj
  obtain ⟨aj, cj, rfl⟩ := own_form oj
  replace oc := own_below B12 oc
  replace oh := own_below B12 oh
  have G12 := G11.below B12
  go_wp2_with fail
  refine (poll_all h (h + 1) h 3 _ _ w12 G12 (by decide)).mono ?_
  rintro e w13 ⟨vk, rfl, ok, G13, F13⟩
  replace ok : w13.ownsRow (h + 2) 2 1 vk 1 (ints [8]) := own_base ok (by have := G12.lt; omega)
  replace G13 : Gr h w13 (h + 1) h 3 [1, 0, 0] [] := G13.to rfl rfl
  replace oc := own_fr F13 oc (by decide) (by omega) (by omega)
  replace oh := own_fr F13 oh (by decide) (by omega) (by omega)
  have hB13 := hB1.trans ((((((((((F2.trans F3).trans F4).trans F5).trans F6).trans F7).trans (.of_below B8 G7.base_le)).trans F9).trans F10).trans F11).trans ((Fr.of_below B12 G11.base_le).trans F13)).below
  have HB13 := hide hB13
  have HO := hide (And.intro oc (And.intro oh ok))
  have HG13 := hide G13
  clear oc oh ok hB13 F2 F3 F4 F5 F6 F7 F9 F10 F11 F13 B8 B12 G1 G2 G3 G4 G5 G6 G7 G8 G9 G10 G11 G12 G13 hB1 oi oj z2
  go_wp2_with fail
  go_loopw [16] (fun i wr => ∃ k : Nat, k ≤ 16 ∧ i = .int .i64 k ∧ ∃ ws : List Wt, ws.length = k ∧ Gr h wr (h + 1) h 3 [1, 0, 0] ws ∧ Fr h (h + 1) h w13 wr) (fun i _ => 16 - (intOf i).toNat)
  case atStart => exact ⟨0, Nat.zero_le _, rfl, [], rfl, unhide HG13, Fr.refl _ _ _ _⟩
  case round =>
    obtain ⟨k, hk, rfl, ws, hl, G, F⟩ := hrel
    by_cases hkn : k < 16
    · have j1 : (k : Int) < 16 := by omega
      have HD := hide (defer_ok h (h + 1) h 3 (k : Int) _ ws wr G (by omega))
      have HF := hide F
      have HL := hide hl
      clear G F hl
      go_wp2_with fail
      refine (unhide HD).mono ?_
      rintro e w14 ⟨rfl, G14, F14⟩
      have HG14 := hide G14
      have HF14 := hide F14
      clear G14 F14
      go_wp2_with fail
      go_roundw
      case rel => exact ⟨k + 1, by omega, by go_num, _, by simp [unhide HL], unhide HG14, (unhide HF).trans (unhide HF14)⟩
      case measure => simp [intOf]; omega
    · obtain rfl : k = 16 := by omega
      have HD := hide (defer_full h (h + 1) h 3 99 _ ws wr G (by omega))
      obtain ⟨oc, oh, ok⟩ := unhide HO
      replace oc := own_fr F oc (by decide) (by omega) (by omega)
      replace oh := own_fr F oh (by decide) (by omega) (by omega)
      replace ok := own_fr F ok (by decide) (by omega) (by omega)
      have RC := hide (Rd.of_own oc)
      have RH := hide (Rd.of_own oh)
      have RK := hide (Rd.of_own ok)
      have HB := hide ((unhide HB13).trans F.below)
      have HL := hide hl
      have HG := hide G
      clear G F hl HO HB13 HG13 oc oh ok
      go_wp2_with fail
      refine (unhide HD).mono ?_
      rintro e wr' ⟨rfl, rfl⟩
      go_wp2_with fail
      refine (same64 vc _ [7] [7] _ ((unhide RC).below ((Below.refl _ _).alloc (Nat.le_refl _) _)) (Rd.one wr' 7 2) (by simp)).mono ?_
      rintro e wa ⟨rfl, Ba⟩
      have Ka := hide (((Below.refl wr'.heap.size wr').alloc (Nat.le_refl _) (.cells #[.int .i64 7] 2)).trans (Ba.mono (by simp)))
      clear Ba
      go_wp2_with fail
      refine (same32 vh _ [0] [0] _ ((unhide RH).below ((unhide Ka).alloc (unhide Ka).size _)) (Rd.one wa 0 3) (by simp)).mono ?_
      rintro e wb ⟨rfl, Bb⟩
      have Kb := hide (((unhide Ka).alloc (unhide Ka).size (.cells #[.int .i64 0] 3)).trans (Bb.mono (by have := (unhide Ka).size; simp; omega)))
      clear Bb
      go_wp2_with fail
      refine (same64 vk _ [8] [8] _ ((unhide RK).below ((unhide Kb).alloc (unhide Kb).size _)) (Rd.one wb 8 2) (by simp)).mono ?_
      rintro e wc ⟨rfl, Bc⟩
      have Kc := hide (((unhide Kb).alloc (unhide Kb).size (.cells #[.int .i64 8] 2)).trans (Bc.mono (by have := (unhide Kb).size; simp; omega)))
      clear Bc
      go_wp2_with fail
      refine (waits_all h (h + 1) h 3 _ ws wc ((unhide HG).below (unhide Kc)) (by have := unhide HL; omega)).mono ?_
      rintro e wd ⟨vd, rfl, od, Bd⟩
      obtain ⟨ad, cd, rfl⟩ := own_form od
      rw [unhide HL]
      have Kd := hide ((unhide Kc).trans (Bd.mono (unhide Kc).size))
      clear Bd od
      go_wp2_with fail
      refine (inside_all h (h + 1) h 3 _ ws wd ((unhide HG).below (unhide Kd))).mono ?_
      rintro e we ⟨ve, rfl, oe, Be⟩
      have Re := hide (Rd.of_own (xs := [0]) oe)
      have Ke := hide ((unhide Kd).trans (Be.mono (unhide Kd).size))
      clear Be oe
      go_wp2_with fail
      refine (same32 ve _ [0] [0] _ ((unhide Re).below ((Below.refl _ _).alloc (Nat.le_refl _) _)) (Rd.one we 0 3) (by simp)).mono ?_
      rintro e wf ⟨rfl, Bf⟩
      have Kf := hide (((unhide Ke).alloc (unhide Ke).size (.cells #[.int .i64 0] 3)).trans (Bf.mono (by have := (unhide Ke).size; simp; omega)))
      clear Bf
      go_wp2_with fail
      refine (known_true wf).mono ?_
      rintro e wg ⟨rfl, Bg⟩
      have Kg := hide ((unhide Kf).trans (Bg.mono (unhide Kf).size))
      clear Bg
      go_wp2_with fail
      go_ret
      rw [unhide HH]
      exact ⟨by simp, (unhide HB).trans ((unhide Kg).mono (by have := (unhide HG).base_le; omega))⟩

set_option maxRecDepth 100000 in
theorem lifted (os : Os) (started : os.Started) (H : Type) (enc : TypeId × Value → H) :
    ReturnsInHanded {} Try.checked os 3 .any (Rows.graceNumbersSpec.pre6 enc Try.prog Try.f3 Rows.graceNumbersRow.domain false) (Rows.graceNumbersSpec.post enc Try.prog Try.f3 false true false false) := by
  refine returnsInHanded_of_change (C := Try.checked) own started (by kernel_rfl) Try.func3
    (ChangeSpec.witness6 (enc := enc) (C := Try.checked) false ⟨#[], #[], []⟩ 8 (by kernel_rfl) (by kernel_rfl) (by kernel_rfl) (by kernel_rfl)) ?_
  intro W base args ds gs before hval0 hW hcnd _
  have hval : ∀ (j : Nat) t v, Try.f3.params[j]? = some t → args[j]? = some v → Value.okWide Try.prog W .any base t v := hval0
  have hW' := hW
  obtain ⟨p, q, hA0, hV, rfl, hfz, hnd⟩ := hW
  have hA : DataW.TrodAll enc Try.prog W 0 (fun _ => true) true Try.f3.params.toList args.toList ds p := hA0
  rw [Try.params3] at hA hval
  obtain ⟨rfl, rfl, rfl⟩ := trodAll_none hA
  obtain ⟨rfl, rfl⟩ := trodVars_none hV
  clear hA0 hval0
  simp only [List.append_nil] at hW'
  refine (walk  W).mono fun e W' ⟨he, hg⟩ => ?_
  subst he
  exact ⟨_, rfl, _, _, _, [], _, [], hW', trodAll_mk1 (shut_bool Try.underlying4 _), rfl, rfl, hg.frame _, fun h => by cases h⟩

theorem over : Rows.graceNumbersRow.holds Try.pinned (OpenSpec.ofChange Rows.graceNumbersSpec) :=
  OpenClaim.holds_of_wide 3 Try.f3 rfl rfl rfl rfl rfl rfl rfl ⟨rfl, rfl, rfl, rfl, rfl⟩ rfl rfl rfl rfl rfl (by kernel_rfl) Try.func3 (by kernel_rfl)
    (of_decide_eq_true (by kernel_rfl)) (by unfold Func.isWrapper; first | (rw [if_pos (by decide +kernel)]; kernel_rfl) | (rw [if_neg (by decide +kernel)]; exact ⟨rfl, rfl⟩))
    (fun os started H enc _ => lifted os started H enc)

end Go.Proofs.Ytkgcgfnleabkdaa.graceNumbers

namespace Go.Proofs.Ytkgcgfnleabkdaa
/-- GraceNumbers answers true. -/
theorem graceNumbers_proved : Rows.GraceNumbersSaid := graceNumbers.over
#print axioms graceNumbers_proved
end Go.Proofs.Ytkgcgfnleabkdaa
