/-
  CellNumbers: the closed sentence of chapter 1 answers true. No conditions.
-/
import Derived.Test.YtfcklnfbjdbbcaaKnown
import Derived.WalkKit
import Derived.ProofKit
import Derived.OpenShut
namespace Go.Proofs.Ytfcklnfbjdbbcaa.cellNumbers
open Go.ChangeShapes Go.WideShapes Go.ChangeAt Go.RowKit

theorem own : ownKnob Try.prog.godebug = none := by kernel_rfl

set_option maxRecDepth 100000 in
set_option maxHeartbeats 1000000 in
theorem walk (w : World) :
    Calls Try.prog 3 #[] w fun e w' => e = .returned (.bool true) ∧ Below w.heap.size w w' := by
  go_enter Try.func3, Try.ntmps3
  go_wp2_with fail
  refine (new_no 0 (by omega) _).mono ?_
  rintro e w1 ⟨rfl, rfl⟩
  go_wp2_with fail
  refine (new_no 65 (by omega) _).mono ?_
  rintro e w1 ⟨rfl, rfl⟩
  go_wp2_with fail
  refine (new_i 64 (by omega) (by omega) _).mono ?_
  rintro e w2 ⟨rfl, hM2, hB2⟩
  go_wp2_with fail
  refine (last_any _ _ _ _ _ _ _ _ _ _ _ hM2).mono ?_
  rintro e w3 ⟨rfl, hB3⟩
  have hM3 := hM2.below hB3
  go_wp2_with fail
  refine (steps_any _ _ _ _ _ _ _ _ _ _ _ hM3).mono ?_
  rintro e w4 ⟨rfl, rfl⟩
  go_wp2_with fail
  refine (store_e _ _ _ 63 _ 0 _ _ _ _ _ (-5) _ hM3 (by omega) (by decide) (by omega) (by omega) 0 _ 1 rfl rfl rfl).mono ?_
  rintro e w5 ⟨rfl, hM5, hF5⟩
  go_wp2_with fail
  refine (load_e _ _ _ 63 _ 1 _ _ _ _ _ _ hM5 (by omega) (by decide) (by omega) (by omega) (-5) 2 rfl rfl).mono ?_
  rintro e w6 ⟨rfl, hM6, hF6⟩
  go_wp2_with fail
  refine (store_no _ _ _ (-1) 1 _ hM6.cells.1 (by omega)).mono ?_
  rintro e w7 ⟨rfl, hB7⟩
  have hM7 := hM6.below hB7
  go_wp2_with fail
  refine (swap_e _ _ _ 63 _ 2 _ _ _ _ _ (-5) 9 _ hM7 (by omega) (by decide) (by omega) (by omega) (-5) 9 true _ 3 rfl rfl rfl rfl rfl).mono ?_
  rintro e w8 ⟨rfl, hM8, hF8⟩
  go_wp2_with fail
  refine (steps_any _ _ _ _ _ _ _ _ _ _ _ hM8).mono ?_
  rintro e w9 ⟨rfl, rfl⟩
  go_wp2_with fail
  refine (last_any _ _ _ _ _ _ _ _ _ _ _ hM8).mono ?_
  rintro e w10 ⟨rfl, hB10⟩
  have hM10 := hM8.below hB10
  go_wp2_with fail
  refine (words_any _ _ _ _ _ _ _ _ _ _ _ hM10).mono ?_
  rintro e w11 ⟨rfl, _, hB11⟩
  go_wp2_with fail
  refine (known_true _).mono ?_
  rintro e w12 ⟨rfl, hB12⟩
  go_wp2
  go_ret
  have z2 := hB2.size
  have z3 := hB3.size
  have z5 := hF5.size
  have z6 := hF6.size
  have z7 := hB7.size
  have z8 := hF8.size
  have z10 := hB10.size
  have z11 := hB11.size
  refine ⟨rfl, ?_⟩
  exact (((((((hB2.trans (hB3.mono z2)).trans (hF5.below (by omega) (by omega) (by omega))).trans (hF6.below (by omega) (by omega) (by omega))).trans (hB7.mono (by omega))).trans (hF8.below (by omega) (by omega) (by omega))).trans (hB10.mono (by omega))).trans (hB11.mono (by omega))).trans (hB12.mono (by omega))

set_option maxRecDepth 100000 in
theorem lifted (os : Os) (started : os.Started) (H : Type) (enc : TypeId × Value → H) :
    ReturnsInHanded {} Try.checked os 3 .any (Rows.cellNumbersSpec.pre6 enc Try.prog Try.f3 Rows.cellNumbersRow.domain false) (Rows.cellNumbersSpec.post enc Try.prog Try.f3 false true false false) := by
  refine returnsInHanded_of_change (C := Try.checked) own started (by kernel_rfl) Try.func3
    (ChangeSpec.witness6 (enc := enc) (C := Try.checked) false ⟨#[], #[], []⟩ 8 (by kernel_rfl) (by kernel_rfl) (by kernel_rfl) (by kernel_rfl)) ?_
  intro W base args ds gs before hval0 hW hcnd _
  have hval : ∀ (j : Nat) t v, Try.f3.params[j]? = some t → args[j]? = some v → Value.okWide Try.prog W .any base t v := hval0
  have hW' := hW
  obtain ⟨p, q, hA0, hV, rfl, hfz, hnd⟩ := hW
  have hA : DataW.TrodAll enc Try.prog W 0 (fun _ => true) true Try.f3.params.toList args.toList ds p := hA0
  rw [Try.params3] at hA hval
  obtain ⟨rfl, rfl, rfl⟩ := trodAll_none hA
  obtain ⟨rfl, rfl⟩ := trodVars_none hV
  clear hA0 hval0
  simp only [List.append_nil] at hW'
  refine (walk  W).mono fun e W' ⟨he, hg⟩ => ?_
  subst he
  exact ⟨_, rfl, _, _, _, [], _, [], hW', trodAll_mk1 (shut_bool Try.underlying4 _), trodAll_mk0, rfl, hg.frame _, fun h => by cases h⟩

theorem over : Rows.cellNumbersRow.holds Try.pinned (OpenSpec.ofChange Rows.cellNumbersSpec) :=
  OpenClaim.holds_of_wide 3 Try.f3 rfl rfl rfl rfl rfl rfl rfl ⟨rfl, rfl, rfl, rfl, rfl⟩ rfl rfl rfl rfl rfl (by kernel_rfl) Try.func3 (by kernel_rfl)
    (of_decide_eq_true (by kernel_rfl)) (by unfold Func.isWrapper; first | (rw [if_pos (by decide +kernel)]; kernel_rfl) | (rw [if_neg (by decide +kernel)]; exact ⟨rfl, rfl⟩))
    (fun os started H enc _ => lifted os started H enc)

end Go.Proofs.Ytfcklnfbjdbbcaa.cellNumbers

namespace Go.Proofs.Ytfcklnfbjdbbcaa
/-- CellNumbers answers true. -/
theorem cellNumbers_proved : Rows.CellNumbersSaid := cellNumbers.over
#print axioms cellNumbers_proved
end Go.Proofs.Ytfcklnfbjdbbcaa
