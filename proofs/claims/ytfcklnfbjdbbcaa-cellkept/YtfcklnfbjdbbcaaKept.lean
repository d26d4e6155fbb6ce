/-
  CellKept: what Words answers is new memory each time. No conditions.
-/
import Derived.Test.YtfcklnfbjdbbcaaWithin
import Derived.ProofKit
import Derived.OpenShut
namespace Go.Proofs.Ytfcklnfbjdbbcaa.cellKept
open Go.ChangeShapes Go.WideShapes Go.ChangeAt Go.RowKit

theorem own : ownKnob Try.prog.godebug = none := by kernel_rfl

set_option maxRecDepth 100000 in
set_option maxHeartbeats 1000000 in
theorem walk (a0 : Int) (w : World) :
    Calls Try.prog 6 #[.int .i64 a0] w fun e w' => e = .returned (.bool true) ∧ Below w.heap.size w w' := by
  go_enter Try.func6, Try.ntmps6
  go_wp2_with fail
  refine (within_any a0 63 _ (by omega) (by omega)).mono ?_
  rintro e w0 ⟨⟨r, r0, r1, rfl⟩, rfl⟩
  go_wp2_with fail
  refine (new_i (1 + r) (by omega) (by omega) _).mono ?_
  rintro e w1 ⟨rfl, hM1, hB1⟩
  go_wp2_with fail
  refine (store_i _ _ _ 0 _ 0 _ _ _ _ _ 4 _ hM1 (by omega) (by omega) (by omega) (by omega)).mono ?_
  rintro e w2 ⟨rfl, hM2, hF2⟩
  go_wp2_with fail
  refine (words_any _ _ _ _ _ _ _ _ _ _ _ hM2).mono ?_
  rintro e w3 ⟨rfl, hW3, hB3⟩
  have hM3 := hM2.below hB3
  generalize hn : (1 + r).toNat = n at *
  have Hn : Hid ((1 + r).toNat = n) := hn
  clear hn
  have hlo := hM2.lo
  have zb := hM2.blt
  have zc := hM2.clt
  have hhi := hM2.hi
  have hlen := hM2.len
  have H3 : ∃ cs : Array Value, w3.heap[w2.heap.size]? = some (.cells cs 2) ∧ cs.size = n := ⟨_, hW3, by simp only [List.size_toArray, List.length_map]; exact hlen⟩
  clear hlen hW3
  generalize hz : w2.heap.size = z at *
  have Hz : Hid (w2.heap.size = z) := hz
  clear hz
  go_wp2_with fail
  go_loopw [6] (fun i wr => ∃ k : Nat, k ≤ n ∧ i = .int .i64 k ∧ Below z w3 wr ∧ ∃ cs : Array Value, wr.heap[z]? = some (.cells cs 2) ∧ cs.size = n) (fun i _ => n - (intOf i).toNat)
  case atStart =>
    exact ⟨0, by omega, rfl, Below.refl _ _, H3⟩
  case round =>
    obtain ⟨k, hk, rfl, hBr, cs, hcs, hsz⟩ := hrel
    by_cases hlt : k < n
    · obtain ⟨v, hv⟩ : ∃ v, wr.cell? ⟨z, k, none⟩ = some v := by
        rw [cell_of hcs]; exact ⟨cs[k]'(by omega), Array.getElem?_eq_getElem _⟩
      have hf := frozen_of hcs k
      have HC : Hid (wr.heap[z]? = some (.cells cs 2)) := hcs
      have HS : Hid (cs.size = n) := hsz
      clear hcs hsz H3
      go_wp2
      go_roundw
      case rel => exact ⟨k + 1, by omega, by go_num, hBr.setCell (p := ⟨z, k, none⟩) (Nat.le_refl _) _, _, heap_set HC.out k _, by simp; exact HS.out⟩
      case measure => simp [intOf]; omega
    · clear hcs hsz H3
      have hMr := hM3.of (hBr.block _ zb) (hBr.block _ zc)
      have h4 : ((List.replicate n (0 : Int)).set (Int.toNat 0) 4).getD (Int.toNat 0) 0 = 4 := by
        cases n with
        | zero => omega
        | succ m => rfl
      generalize hws : ((List.replicate n (0 : Int)).set (Int.toNat 0) 4) = ws at *
      have H4 := hide h4
      clear h4 hws
      go_wp2_with fail
      refine (load_e _ _ _ 0 _ (0 + 1) _ _ _ _ _ _ hMr (by omega) (by omega) (by omega) (by omega) 4 2 (unhide H4) rfl).mono ?_
      rintro e w4 ⟨rfl, hM4, hF4⟩
      go_wp2_with fail
      refine (words_any _ _ _ _ _ _ _ _ _ _ _ hM4).mono ?_
      rintro e w5 ⟨rfl, hW5, hB5⟩
      have hc5 : w5.cell? ⟨w4.heap.size, 0, none⟩ = some (.int .i64 4) := by
        rw [cell_of hW5]
        have hl := hM4.len
        cases ws with
        | nil => simp at hl; omega
        | cons x xs => have := unhide H4; simp at this; subst this; rfl
      have HW5 := hide hW5
      clear hW5
      have n0 : (0 : Int) < (n : Int) := by omega
      go_wp2_with fail
      refine (known_true _).mono ?_
      rintro e w6 ⟨rfl, hB6⟩
      go_wp2
      go_ret
      have z1 := hB1.size
      have z2 := hF2.size
      have z3 := hB3.size
      have z4 := hBr.size
      have z5 := hF4.size
      have z6 := hB5.size
      refine ⟨rfl, ?_⟩
      have b3 : Below w0.heap.size w2 w3 := by rw [← Hz.out] at zb; exact hB3.mono (by rw [← Hz.out]; omega)
      exact (((((hB1.trans (hF2.below (by omega) (by omega) (by omega))).trans b3).trans (hBr.mono (by omega))).trans (hF4.below (by omega) (by omega) (by omega))).trans (hB5.mono (by omega))).trans (hB6.mono (by omega))

set_option maxRecDepth 100000 in
theorem lifted (os : Os) (started : os.Started) (H : Type) (enc : TypeId × Value → H) :
    ReturnsInHanded {} Try.checked os 6 .any (Rows.cellKeptSpec.pre6 enc Try.prog Try.f6 Rows.cellKeptRow.domain false) (Rows.cellKeptSpec.post enc Try.prog Try.f6 false true false false) := by
  refine returnsInHanded_of_change (C := Try.checked) own started (by kernel_rfl) Try.func6
    (ChangeSpec.witness6 (enc := enc) (C := Try.checked) false ⟨#[], #[.int .i64 0], []⟩ 8 (by kernel_rfl) (by kernel_rfl) (by kernel_rfl) (by kernel_rfl)) ?_
  intro W base args ds gs before hval0 hW hcnd _
  have hval : ∀ (j : Nat) t v, Try.f6.params[j]? = some t → args[j]? = some v → Value.okWide Try.prog W .any base t v := hval0
  have hW' := hW
  obtain ⟨p, q, hA0, hV, rfl, hfz, hnd⟩ := hW
  have hA : DataW.TrodAll enc Try.prog W 0 (fun _ => true) true Try.f6.params.toList args.toList ds p := hA0
  rw [Try.params6] at hA hval
  obtain ⟨v0, vs0, d0, ds0, p0, q0, hargs, rfl, rfl, h0, r0⟩ := trodAll_cons hA
  obtain ⟨rfl, rfl, rfl⟩ := trodAll_nil r0
  obtain rfl : args = #[v0] := by cases args; simp_all
  obtain ⟨rfl, rfl⟩ := trodVars_none hV
  obtain ⟨a0, rfl, rfl, rfl, w0⟩ := open_int Try.underlying3 (hval 0 3 v0 rfl rfl) h0
  clear hA0 hval0
  simp only [List.append_nil] at hW'
  refine (walk a0 W).mono fun e W' ⟨he, hg⟩ => ?_
  subst he
  exact ⟨_, rfl, _, _, _, [], _, [], hW', trodAll_mk1 (shut_bool Try.underlying4 _), (trodAll_cons_mk (shut_int Try.underlying3 w0) trodAll_mk0), rfl, hg.frame _, fun h => by cases h⟩

theorem over : Rows.cellKeptRow.holds Try.pinned (OpenSpec.ofChange Rows.cellKeptSpec) :=
  OpenClaim.holds_of_wide 6 Try.f6 rfl rfl rfl rfl rfl rfl rfl ⟨rfl, rfl, rfl, rfl, rfl⟩ rfl rfl rfl rfl rfl (by kernel_rfl) Try.func6 (by kernel_rfl)
    (of_decide_eq_true (by kernel_rfl)) (by unfold Func.isWrapper; first | (rw [if_pos (by decide +kernel)]; kernel_rfl) | (rw [if_neg (by decide +kernel)]; exact ⟨rfl, rfl⟩))
    (fun os started H enc _ => lifted os started H enc)

end Go.Proofs.Ytfcklnfbjdbbcaa.cellKept

namespace Go.Proofs.Ytfcklnfbjdbbcaa
/-- CellKept answers true. -/
theorem cellKept_proved : Rows.CellKeptSaid := cellKept.over
#print axioms cellKept_proved
end Go.Proofs.Ytfcklnfbjdbbcaa
