/-
  ArenaKept answers true: what Live answers is new memory each time: two slots of three are taken, what Live answered is written over, and Live answers the same again. It holds with no condition.
-/
import Derived.Test.YtfhphamjalpjpaaOwn
import Derived.ProofKit
import Derived.OpenShut
import Derived.ShutString
import Derived.ChangeOld
import Derived.Below
namespace Go.Proofs.Ytfhphamjalpjpaa.arenaKept
open Go.ChangeShapes Go.WideShapes Go.ChangeAt Go.RowKit
open Go.ChangeMaps (open_string shut_string)
set_option linter.unusedVariables false
attribute [local go_sem ↓] Go.wp_at_zero Go.wp_at_succ

theorem own : ownKnob Try.prog.godebug = none := by kernel_rfl
theorem laidOut : laidOutB Try.prog = true := by kernel_rfl

set_option maxRecDepth 100000 in
set_option maxHeartbeats 1000000 in
theorem walk (w : World) : Calls Try.prog 6 #[] w fun e w' => e = .returned (.bool true) ∧ Below w.heap.size w w' := by
  go_enter Try.func6, Try.ntmps6
  go_wp2_with fail
  refine (new_good 3 (by omega) (by omega) w).mono ?_
  rintro e w0 ⟨c, d, rfl, hc, hd, hA0, hB⟩
  have hb : w.heap.size ≤ w.heap.size + 2 := by omega
  generalize w.heap.size + 2 = b at *
  replace hA0 : Ar w0 b c d 3 [(0, 0), (0, 0), (0, 0)] [0, 1, 2] 0 := hA0
  have hs0 := hB.size
  go_wp2_with fail
  refine (take_yes b c d 3 0 _ _ _ 1 0 0 w0 hA0 rfl (by omega) (by omega)).mono ?_
  rintro e w1 ⟨rfl, hA1, hF1⟩
  replace hA1 : Ar w1 b c d 3 [(1, 1), (0, 0), (0, 0)] [1, 2] 0 := hA1
  replace hB := hB.trans (hF1.below hb hc hd hs0)
  have hs1 := hB.size
  clear hs0 hA0 hF1
  go_wp2_with fail
  refine (take_yes b c d 3 1 _ _ _ 2 0 0 w1 hA1 rfl (by omega) (by omega)).mono ?_
  rintro e w2 ⟨rfl, hA2, hF2⟩
  replace hA2 : Ar w2 b c d 3 [(1, 1), (1, 2), (0, 0)] [2] 0 := hA2
  replace hB := hB.trans (hF2.below hb hc hd hs1)
  have hs2 := hB.size
  clear hs1 hA1 hF2
  go_wp2_with fail
  refine (live_all b c d 3 _ _ _ w2 hA2 (nn_cons (by omega) (nn_cons (by omega) (nn_cons (by omega) nn_nil)))).mono ?_
  rintro e w3 ⟨v, rfl, own3, hB3⟩
  have e3 : lives [(1, 1), (1, 2), (0, 0)] 3 = [(0, 1), (1, 1)] := by simp [lives]
  rw [e3] at own3
  obtain ⟨g, cap, cur, rfl, hg, k3, hcap, hcm, hcs, hcells⟩ := own_open own3 (by simp)
  have hA3 := hA2.below hB3
  have hl := hA2.lt
  replace hB := hB.trans (hB3.mono hs2)
  have hs3 := hB.size
  clear own3 hcells hB3 hA2 e3
  have gb : g ≠ b := by omega
  have gc : g ≠ c := by omega
  have gd : g ≠ d := by omega
  have hgw : w.heap.size ≤ g := by omega
  clear hs2 hg
  have HK3 := hide k3
  have HA3 := hide hA3
  clear k3 hA3 hl
  go_wp2_with fail
  go_loopw [4] (fun i wr => ∃ (k : Nat) (cr : Array Value), k ≤ 2 ∧ i = .int .i64 k ∧ wr.heap[g]? = some (.cells cr 29) ∧ cr.size = cap * 2 ∧ Ar wr b c d 3 [(1, 1), (1, 2), (0, 0)] [2] 0 ∧ Below w.heap.size w wr) (fun i _ => 2 - (intOf i).toNat)
  case atStart => exact ⟨0, cur, by omega, rfl, unhide HK3, hcs, unhide HA3, hB⟩
  case round =>
    obtain ⟨k, cr, hk, rfl, hgk, hcr, hA, hBr⟩ := hrel
    clear hB HK3 HA3
    have hcap2 : 2 ≤ cap := hcap
    by_cases hk2 : k < 2
    · have j1 : (k : Int) < 2 := by omega
      have j0 : (0 : Int) ≤ (k : Int) := by omega
      have y0 : wr.cell? ⟨g, k * 2, none⟩ = some (cr[k * 2]'(by omega)) := by rw [cell_of hgk]; simp
      have yf : wr.frozen? ⟨g, k * 2, none⟩ = false := frozen_of hgk _
      obtain ⟨cr', P1, P2⟩ := size_set hgk (k * 2) (.int .i64 77)
      have P3 := hA.setNew (p := ⟨g, k * 2, none⟩) gb gc gd (.int .i64 77)
      have P4 := hBr.setCell (p := ⟨g, k * 2, none⟩) hgw (.int .i64 77)
      have H1 := hide P1
      have H3 := hide P3
      have H4 := hide P4
      clear P1 P3 P4 hgk hA hBr
      generalize (cr[k * 2]'_) = yy at y0
      go_wp2_with fail
      go_roundw
      case rel => exact ⟨k + 1, cr', by omega, by go_num, unhide H1, by omega, unhide H3, unhide H4⟩
      case measure => simp [intOf]; omega
    · obtain rfl : k = 2 := by omega
      clear hk2 hk
      have HA := hide hA
      clear hA
      go_wp2_with fail
      refine (live_all b c d 3 _ _ _ wr (unhide HA) (nn_cons (by omega) (nn_cons (by omega) (nn_cons (by omega) nn_nil)))).mono ?_
      rintro e w4 ⟨v, rfl, own4, hB4⟩
      have e4 : lives [(1, 1), (1, 2), (0, 0)] 3 = [(0, 1), (1, 1)] := by simp [lives]
      rw [e4] at own4
      obtain ⟨g2, cap2, cur2, rfl, hg2, k4, hcap2, hcm2, hcs2, hcells⟩ := own_open own4 (by simp)
      have z0 : w4.cell? ⟨g2, 0, none⟩ = some (.int .i64 0) := hcells 0 _ rfl
      have z2 : w4.cell? ⟨g2, 2, none⟩ = some (.int .i64 1) := hcells 2 _ rfl
      have hBB := hBr.trans (hB4.mono hBr.size)
      clear own4 hcells hB4 e4 k4 hgk
      go_wp2_with fail
      refine (known_true w4).mono ?_
      rintro e w5 ⟨rfl, hB5⟩
      go_wp2_with fail
      go_ret
      exact ⟨rfl, hBB.trans (hB5.mono hBB.size)⟩

set_option maxRecDepth 100000 in
theorem lifted (os : Os) (started : os.Started) (H : Type) (enc : TypeId × Value → H) :
    ReturnsInHanded {} Try.checked os 6 .any (Rows.arenaKeptSpec.pre6 enc Try.prog Try.f6 Rows.arenaKeptRow.domain false) (Rows.arenaKeptSpec.post enc Try.prog Try.f6 false true false false) := by
  refine returnsInHanded_of_change (C := Try.checked) own started (by kernel_rfl) Try.func6
    (ChangeSpec.witness6 (enc := enc) (C := Try.checked) false ⟨#[], #[], []⟩ 8 (by kernel_rfl) (by kernel_rfl) (by kernel_rfl) (by kernel_rfl)) ?_
  intro W base args ds gs before hval0 hW hcnd _
  have hval : ∀ (j : Nat) t v, Try.f6.params[j]? = some t → args[j]? = some v → Value.okWide Try.prog W .any base t v := hval0
  have hW' := hW
  obtain ⟨p, q, hA0, hV, rfl, hfz, hnd⟩ := hW
  have hA : DataW.TrodAll enc Try.prog W 0 (fun _ => true) true Try.f6.params.toList args.toList ds p := hA0
  rw [Try.params6] at hA hval
  obtain ⟨rfl, rfl, rfl⟩ := trodAll_none hA
  obtain ⟨rfl, rfl⟩ := trodVars_none hV
  clear hA0 hval0
  simp only [List.append_nil] at hW'
  refine (walk  W).mono fun e W' ⟨he, hg⟩ => ?_
  subst he
  exact ⟨_, rfl, _, _, _, [], _, [], hW', trodAll_mk1 (shut_bool Try.underlying4 _), rfl, rfl, hg.frame _, fun h => by cases h⟩

theorem over : Rows.arenaKeptRow.holds Try.pinned (OpenSpec.ofChange Rows.arenaKeptSpec) :=
  OpenClaim.holds_of_wide 6 Try.f6 rfl rfl rfl rfl rfl rfl rfl ⟨rfl, rfl, rfl, rfl, rfl⟩ rfl rfl rfl rfl rfl (by kernel_rfl) Try.func6 (by kernel_rfl)
    (of_decide_eq_true (by kernel_rfl)) (by unfold Func.isWrapper; first | (rw [if_pos (by decide +kernel)]; kernel_rfl) | (rw [if_neg (by decide +kernel)]; exact ⟨rfl, rfl⟩))
    (fun os started H enc _ => lifted os started H enc)

end Go.Proofs.Ytfhphamjalpjpaa.arenaKept

namespace Go.Proofs.Ytfhphamjalpjpaa
/-- ArenaKept answers true. -/
theorem arenaKept_proved : Rows.ArenaKeptSaid := arenaKept.over
#print axioms arenaKept_proved
end Go.Proofs.Ytfhphamjalpjpaa
