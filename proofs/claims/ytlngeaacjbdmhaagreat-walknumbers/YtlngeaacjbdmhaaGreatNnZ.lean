/-
  WalkNumbers: whatever its arguments, the law returns true, and each argument reads behind the call as it read before. No condition.
-/
import Derived.Test.YtlngeaacjbdmhaaGreatNn02
import Derived.Test.YtlngeaacjbdmhaaGreatGrA
import Derived.ProofKit
import Derived.OpenShut
import Derived.ChangeOld
namespace Go.Proofs.YtlngeaacjbdmhaaGreat.walkNumbers
open Go.ChangeShapes Go.WideShapes Go.ChangeAt Go.RowKit
set_option linter.unusedVariables false

theorem own : ownKnob Tryz.prog.godebug = none := by kernel_rfl
theorem laidOut : laidOutB Tryz.prog = true := by kernel_rfl

set_option maxRecDepth 100000 in
theorem lifted (os : Os) (started : os.Started) (H : Type) (enc : TypeId × Value → H) :
    ReturnsInHanded {} Tryz.checked os 5 .any (Rows.walkNumbersSpec.pre6 enc Tryz.prog Tryz.f5 Rows.walkNumbersRow.domain false) (Rows.walkNumbersSpec.post enc Tryz.prog Tryz.f5 false true false false) := by
  refine returnsInHanded_of_change (C := Tryz.checked) own started (by kernel_rfl) Tryz.func5
    (ChangeSpec.witness6 (enc := enc) (C := Tryz.checked) false ⟨#[], #[], []⟩ 8 (by kernel_rfl) (by kernel_rfl) (by kernel_rfl) (by kernel_rfl)) ?_
  intro W base args ds gs before hval0 hW hcnd _
  have hval : ∀ (j : Nat) t v, Tryz.f5.params[j]? = some t → args[j]? = some v → Value.okWide Tryz.prog W .any base t v := hval0
  have hW' := hW
  obtain ⟨p, q, hA0, hV, rfl, hfz, hnd⟩ := hW
  have hA : DataW.TrodAll enc Tryz.prog W 0 (fun _ => true) true Tryz.f5.params.toList args.toList ds p := hA0
  rw [Tryz.params5] at hA hval
  obtain ⟨hargs, rfl, rfl⟩ := trodAll_nil hA
  obtain rfl : args = #[] := by cases args; simp_all
  obtain ⟨rfl, rfl⟩ := trodVars_none hV
  clear hA0 hval0
  refine (Bt.numbers_walk  W ).mono fun e W' ⟨he, bel⟩ => ?_
  subst he
  exact ⟨_, rfl, _, _, _, [], _, [], hW', trodAll_mk1 (shut_bool Tryz.underlying4 _), trodAll_mk0, rfl, bel.frame _, fun h => by cases h⟩

theorem h1 : Rows.walkNumbersRow.wf (OpenSpec.ofChange Rows.walkNumbersSpec) = true := by kernel_rfl
theorem h4 : Tryz.f5.params.all (Tryz.pinned.checked.prog.readableRec ·) = true := by kernel_rfl
theorem h5 : namedTie Tryz.pinned.checked.prog Rows.walkNumbersRow.named Rows.walkNumbersSpec.vars = true := by kernel_rfl
theorem h10 : (Rows.walkNumbersRow.inPlace == Tryz.pinned.checked.prog.inPlace 5) = true := by kernel_rfl
theorem h11 : (Rows.walkNumbersRow.unfollowed == Tryz.pinned.checked.prog.unfollowed 5) = true := by kernel_rfl
theorem h12 : (Rows.walkNumbersRow.recurses == Tryz.pinned.checked.prog.recurses 5) = true := by kernel_rfl
theorem h13 : (Rows.walkNumbersRow.named == Tryz.pinned.checked.prog.varsNamed 5) = true := by kernel_rfl
theorem h14 : (Rows.walkNumbersRow.maps == (Tryz.f5.params.toList ++ Rows.walkNumbersSpec.plain.varTypes Tryz.pinned.checked.prog).any (Tryz.pinned.checked.prog.mapsRec ·)) = true := by kernel_rfl
theorem h15 : (Rows.walkNumbersRow.ifaces == (Tryz.f5.params.toList ++ Rows.walkNumbersSpec.plain.varTypes Tryz.pinned.checked.prog).any (Tryz.pinned.checked.prog.ifacesRec ·)) = true := by kernel_rfl
theorem h16 : (Rows.walkNumbersRow.mapsOut == Tryz.pinned.checked.prog.mapsAmong Tryz.f5.resultTypes.toList) = true := by kernel_rfl
theorem h17 : (Rows.walkNumbersRow.loops == (Tryz.f5.params.toList ++ Rows.walkNumbersSpec.plain.varTypes Tryz.pinned.checked.prog).any (Tryz.pinned.checked.prog.loopsFrom ·)) = true := by kernel_rfl
theorem h18 : (Rows.walkNumbersRow.wideKeys == (Tryz.f5.params.toList ++ Rows.walkNumbersSpec.plain.varTypes Tryz.pinned.checked.prog ++ Tryz.f5.resultTypes.toList).any (Tryz.pinned.checked.prog.wideKeysFrom ·)) = true := by kernel_rfl
theorem h19 : Rows.walkNumbersSpec.vars.all (Tryz.pinned.checked.prog.varReadable ·) = true := by kernel_rfl
theorem h20 : Tryz.f5.resultTypes.all (fun t => Tryz.pinned.checked.prog.readableRec t && decide (t < Tryz.pinned.checked.prog.types.size)) = true := by kernel_rfl
theorem h21 : (Rows.walkNumbersRow.ifacesOut == Tryz.f5.resultTypes.toList.any (Tryz.pinned.checked.prog.ifacesRec ·)) = true := by kernel_rfl
theorem h22 : (Rows.walkNumbersRow.loopsOut == Tryz.f5.resultTypes.toList.any (Tryz.pinned.checked.prog.loopsFrom ·)) = true := by kernel_rfl
theorem h23 : (Rows.walkNumbersRow.plainKeys == Tryz.pinned.checked.prog.plainKeys) = true := by kernel_rfl
theorem h27 : (Rows.walkNumbersRow.lifted == Tryz.pinned.checked.prog.liftsFinal) = true := by kernel_rfl
theorem h28 : (Tryz.pinned.checked.prog.make == some Rows.walkNumbersRow.make) = true := by kernel_rfl
theorem h31 : (Rows.walkNumbersRow.veiled == (Tryz.f5.params.toList ++ Rows.walkNumbersSpec.plain.varTypes Tryz.pinned.checked.prog ++ Tryz.f5.resultTypes.toList).any (Tryz.pinned.checked.prog.veiledRec ·)) = true := by kernel_rfl
theorem h32 : Rows.walkNumbersRow.veiledFits Tryz.pinned.checked.prog Tryz.f5.params.toList (Tryz.f5.params.toList ++ Rows.walkNumbersSpec.plain.varTypes Tryz.pinned.checked.prog ++ Tryz.f5.resultTypes.toList) = true := by kernel_rfl
theorem named : Tryz.pinned.checked.prog.funcNamed Rows.walkNumbersRow.func = some 5 := by kernel_rfl
theorem over : Rows.walkNumbersRow.holds Tryz.pinned (OpenSpec.ofChange Rows.walkNumbersSpec) :=
  OpenClaim.holds_of_wide 5 Tryz.f5 rfl rfl rfl rfl rfl rfl rfl ⟨rfl, rfl, rfl, rfl, rfl⟩ rfl rfl rfl rfl rfl named Tryz.func5 (gr.joined_of h1 gr.p1 gr.p2 h4 h5 (by kernel_rfl) gr.p3 (by kernel_rfl) gr.p4 h10 h11 h12 h13 h14 h15 h16 h17 h18 h19 h20 h21 h22 h23 (by kernel_rfl) gr.p5 gr.p6 h27 h28 (by kernel_rfl) (by kernel_rfl) h31 h32)
    (of_decide_eq_true (by kernel_rfl)) (by unfold Func.isWrapper; first | (rw [if_pos (by decide +kernel)]; kernel_rfl) | (rw [if_neg (by decide +kernel)]; exact ⟨rfl, rfl⟩))
    (fun os started H enc _ => lifted os started H enc)

end Go.Proofs.YtlngeaacjbdmhaaGreat.walkNumbers

namespace Go.Proofs.YtlngeaacjbdmhaaGreat
/-- WalkNumbers answers true. -/
theorem walkNumbers_proved : Rows.WalkNumbersSaid := walkNumbers.over
#print axioms walkNumbers_proved
end Go.Proofs.YtlngeaacjbdmhaaGreat
