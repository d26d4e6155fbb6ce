/-
  TreeTame: whatever its arguments, the law returns true, and each argument reads behind the call as it read before. No condition.
-/
import Derived.Test.YtlngeaacjbdmhaaGreatQr37
import Derived.ProofKit
import Derived.OpenShut
import Derived.ChangeOld
namespace Go.Proofs.YtlngeaacjbdmhaaGreat.treeTame
open Go.ChangeShapes Go.WideShapes Go.ChangeAt Go.RowKit
set_option linter.unusedVariables false

theorem own : ownKnob Tryz.prog.godebug = none := by kernel_rfl
theorem laidOut : laidOutB Tryz.prog = true := by kernel_rfl

set_option maxRecDepth 100000 in
theorem lifted (os : Os) (started : os.Started) (H : Type) (enc : TypeId × Value → H) :
    ReturnsInHanded {} Tryz.checked os 4 .any (Rows.treeTameSpec.pre6 enc Tryz.prog Tryz.f4 Rows.treeTameRow.domain false) (Rows.treeTameSpec.post enc Tryz.prog Tryz.f4 false true false false) := by
  refine returnsInHanded_of_change (C := Tryz.checked) own started (by kernel_rfl) Tryz.func4
    (ChangeSpec.witness6 (enc := enc) (C := Tryz.checked) false ⟨#[], #[.int .i64 0, .slice none 0 0], []⟩ 8 (by kernel_rfl) (by kernel_rfl) (by kernel_rfl) (by kernel_rfl)) ?_
  intro W base args ds gs before hval0 hW hcnd _
  have hval : ∀ (j : Nat) t v, Tryz.f4.params[j]? = some t → args[j]? = some v → Value.okWide Tryz.prog W .any base t v := hval0
  have hW' := hW
  obtain ⟨p, q, hA0, hV, rfl, hfz, hnd⟩ := hW
  have hA : DataW.TrodAll enc Tryz.prog W 0 (fun _ => true) true Tryz.f4.params.toList args.toList ds p := hA0
  rw [Tryz.params4] at hA hval
  obtain ⟨v0, vs0, d0, ds0, p0, q0, hargs, rfl, rfl, h0, r0⟩ := trodAll_cons hA
  obtain ⟨v1, vs1, d1, ds1, p1, q1, rfl, rfl, rfl, h1, r1⟩ := trodAll_cons r0
  obtain ⟨rfl, rfl, rfl⟩ := trodAll_nil r1
  obtain rfl : args = #[v0, v1] := by cases args; simp_all
  obtain ⟨rfl, rfl⟩ := trodVars_none hV
  obtain ⟨a0, rfl, rfl, rfl, w0⟩ := open_int Tryz.underlying3 (hval 0 3 v0 rfl rfl) h0
  obtain ⟨a1, len1, cap1, rfl⟩ := okWide_slice Tryz.underlying22 (hval 1 22 v1 rfl rfl)
  have k1 := h1
  have lt1 : ∀ x ∈ p1, x.block < W.heap.size := by obtain ⟨m, hm⟩ := k1; exact DataW.trod_lt m _ _ _ hm
  have w1 : AsksAt W a1 len1 := by
    obtain ⟨fuel, hf⟩ := h1
    exact asks_of (by simpa [Value.cells] using hf)
  clear hA0 hval0
  refine (Bo.tame_walk a0 a1 len1 cap1 W w1).mono fun e W' ⟨he, bel⟩ => ?_
  subst he
  exact ⟨_, rfl, _, _, _, [], _, [], hW', trodAll_mk1 (shut_bool Tryz.underlying4 _), (trodAll_cons_mk (shut_int Tryz.underlying3 w0) (trodAll_cons_mk (Below.trod laidOut (by kernel_rfl) (of_decide_eq_true (by kernel_rfl)) k1 bel lt1) trodAll_mk0)), rfl, bel.frame _, fun h => by cases h⟩

theorem h1 : Rows.treeTameRow.wf (OpenSpec.ofChange Rows.treeTameSpec) = true := by kernel_rfl
theorem h4 : Tryz.f4.params.all (Tryz.pinned.checked.prog.readableRec ·) = true := by kernel_rfl
theorem h5 : namedTie Tryz.pinned.checked.prog Rows.treeTameRow.named Rows.treeTameSpec.vars = true := by kernel_rfl
theorem h10 : (Rows.treeTameRow.inPlace == Tryz.pinned.checked.prog.inPlace 4) = true := by kernel_rfl
theorem h11 : (Rows.treeTameRow.unfollowed == Tryz.pinned.checked.prog.unfollowed 4) = true := by kernel_rfl
theorem h12 : (Rows.treeTameRow.recurses == Tryz.pinned.checked.prog.recurses 4) = true := by kernel_rfl
theorem h13 : (Rows.treeTameRow.named == Tryz.pinned.checked.prog.varsNamed 4) = true := by kernel_rfl
theorem h14 : (Rows.treeTameRow.maps == (Tryz.f4.params.toList ++ Rows.treeTameSpec.plain.varTypes Tryz.pinned.checked.prog).any (Tryz.pinned.checked.prog.mapsRec ·)) = true := by kernel_rfl
theorem h15 : (Rows.treeTameRow.ifaces == (Tryz.f4.params.toList ++ Rows.treeTameSpec.plain.varTypes Tryz.pinned.checked.prog).any (Tryz.pinned.checked.prog.ifacesRec ·)) = true := by kernel_rfl
theorem h16 : (Rows.treeTameRow.mapsOut == Tryz.pinned.checked.prog.mapsAmong Tryz.f4.resultTypes.toList) = true := by kernel_rfl
theorem h17 : (Rows.treeTameRow.loops == (Tryz.f4.params.toList ++ Rows.treeTameSpec.plain.varTypes Tryz.pinned.checked.prog).any (Tryz.pinned.checked.prog.loopsFrom ·)) = true := by kernel_rfl
theorem h18 : (Rows.treeTameRow.wideKeys == (Tryz.f4.params.toList ++ Rows.treeTameSpec.plain.varTypes Tryz.pinned.checked.prog ++ Tryz.f4.resultTypes.toList).any (Tryz.pinned.checked.prog.wideKeysFrom ·)) = true := by kernel_rfl
theorem h19 : Rows.treeTameSpec.vars.all (Tryz.pinned.checked.prog.varReadable ·) = true := by kernel_rfl
theorem h20 : Tryz.f4.resultTypes.all (fun t => Tryz.pinned.checked.prog.readableRec t && decide (t < Tryz.pinned.checked.prog.types.size)) = true := by kernel_rfl
theorem h21 : (Rows.treeTameRow.ifacesOut == Tryz.f4.resultTypes.toList.any (Tryz.pinned.checked.prog.ifacesRec ·)) = true := by kernel_rfl
theorem h22 : (Rows.treeTameRow.loopsOut == Tryz.f4.resultTypes.toList.any (Tryz.pinned.checked.prog.loopsFrom ·)) = true := by kernel_rfl
theorem h23 : (Rows.treeTameRow.plainKeys == Tryz.pinned.checked.prog.plainKeys) = true := by kernel_rfl
theorem h27 : (Rows.treeTameRow.lifted == Tryz.pinned.checked.prog.liftsFinal) = true := by kernel_rfl
theorem h28 : (Tryz.pinned.checked.prog.make == some Rows.treeTameRow.make) = true := by kernel_rfl
theorem h31 : (Rows.treeTameRow.veiled == (Tryz.f4.params.toList ++ Rows.treeTameSpec.plain.varTypes Tryz.pinned.checked.prog ++ Tryz.f4.resultTypes.toList).any (Tryz.pinned.checked.prog.veiledRec ·)) = true := by kernel_rfl
theorem h32 : Rows.treeTameRow.veiledFits Tryz.pinned.checked.prog Tryz.f4.params.toList (Tryz.f4.params.toList ++ Rows.treeTameSpec.plain.varTypes Tryz.pinned.checked.prog ++ Tryz.f4.resultTypes.toList) = true := by kernel_rfl
theorem named : Tryz.pinned.checked.prog.funcNamed Rows.treeTameRow.func = some 4 := by kernel_rfl
theorem over : Rows.treeTameRow.holds Tryz.pinned (OpenSpec.ofChange Rows.treeTameSpec) :=
  OpenClaim.holds_of_wide 4 Tryz.f4 rfl rfl rfl rfl rfl rfl rfl ⟨rfl, rfl, rfl, rfl, rfl⟩ rfl rfl rfl rfl rfl named Tryz.func4 (gr.joined_of h1 gr.p1 gr.p2 h4 h5 (by kernel_rfl) gr.p3 (by kernel_rfl) gr.p4 h10 h11 h12 h13 h14 h15 h16 h17 h18 h19 h20 h21 h22 h23 (by kernel_rfl) gr.p5 gr.p6 h27 h28 (by kernel_rfl) (by kernel_rfl) h31 h32)
    (of_decide_eq_true (by kernel_rfl)) (by unfold Func.isWrapper; first | (rw [if_pos (by decide +kernel)]; kernel_rfl) | (rw [if_neg (by decide +kernel)]; exact ⟨rfl, rfl⟩))
    (fun os started H enc _ => lifted os started H enc)

end Go.Proofs.YtlngeaacjbdmhaaGreat.treeTame

namespace Go.Proofs.YtlngeaacjbdmhaaGreat
/-- TreeTame answers true. -/
theorem treeTame_proved : Rows.TreeTameSaid := treeTame.over
#print axioms treeTame_proved
end Go.Proofs.YtlngeaacjbdmhaaGreat
