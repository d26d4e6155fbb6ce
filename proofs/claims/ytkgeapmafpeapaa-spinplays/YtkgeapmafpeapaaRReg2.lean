/-
  The region of the document's New: whatever the order, its six blocks lie there in the end.
-/
import Derived.Test.YtkgeapmafpeapaaRFresh
namespace Go.Proofs.Ytkgeapmafpeapaa
open Go.RowKit

def chk1 (ops : Array Oper) (b1 b3 b5 b7 b9 b11 : Bool) : Bool :=
  (b3 && !b1) || (b1 && b3 && b5 && b7 && b9 && b11) ||
  (!(Region.ready .any ops #[true, b1, true, b3, true, b5, true, b7, true, b9, true, b11, false, false, false, false]).isEmpty && (Region.ready .any ops #[true, b1, true, b3, true, b5, true, b7, true, b9, true, b11, false, false, false, false]).all fun i => (i == 1 && !b1) || (i == 3 && b1 && !b3) || (i == 5 && !b5) || (i == 7 && !b7) || (i == 9 && !b9) || (i == 11 && !b11))
def chk (ops : Array Oper) : Bool := [false, true].all fun b1 => [false, true].all fun b3 => [false, true].all fun b5 => [false, true].all fun b7 => [false, true].all fun b9 => [false, true].all fun b11 => chk1 ops b1 b3 b5 b7 b9 b11
theorem chk_at {ops : Array Oper} (h : chk ops = true) (b1 b3 b5 b7 b9 b11 : Bool) : chk1 ops b1 b3 b5 b7 b9 b11 = true := by
  have m : ∀ b : Bool, b ∈ [false, true] := by intro b; cases b <;> simp
  unfold chk at h
  exact List.all_eq_true.1 (List.all_eq_true.1 (List.all_eq_true.1 (List.all_eq_true.1 (List.all_eq_true.1 (List.all_eq_true.1 h b1 (m _)) b3 (m _)) b5 (m _)) b7 (m _)) b9 (m _)) b11 (m _)

def IsMake (ops : Array Oper) (i d p : Nat) (T : TypeId) : Prop := ∃ o, ops[i]? = some o ∧ o.guard = none ∧ o.dst = some d ∧ o.op = .makeSlice T (.tmp p) (.tmp p)

theorem eval_tmp {t : Array Value} {j : Nat} {v : Value} (h : t[j]? = some v) : (⟨t, []⟩ : Act).eval (.tmp j) = v := by
  show t.getD j undef = v
  rw [Array.getD_eq_getD_getElem?, h]; rfl

theorem mk3 (k : Nat) (k8 : k ≤ 8) (w : World) : (Instr.makeSlice 41 (.int .i64 (k : Int)) (.int .i64 (k : Int))).run Try.prog w = .ok (.slice (some ⟨w.heap.size, 0, none⟩) k k) (w.alloc (.cells (zcs k) 3)) := by
  have h := run_make_row' (P := Try.prog) 41 3 (.int .i64 0) 8 Try.underlying41 info3 rfl .i64 .i64 k (by omega) (by omega) w
  rw [made_zero] at h
  exact h
theorem mk2 (k : Nat) (k8 : k ≤ 8) (w : World) : (Instr.makeSlice 55 (.int .i64 (k : Int)) (.int .i64 (k : Int))).run Try.prog w = .ok (.slice (some ⟨w.heap.size, 0, none⟩) k k) (w.alloc (.cells (zcs k) 2)) := by
  have h := run_make_row' (P := Try.prog) 55 2 (.int .i64 0) 8 Try.underlying55 info2 rfl .i64 .i64 k (by omega) (by omega) w
  rw [made_zero] at h
  exact h
theorem mk50 (k : Nat) (k8 : k ≤ 8) (w : World) : (Instr.makeSlice 62 (.int .i64 (k : Int)) (.int .i64 (k : Int))).run Try.prog w = .ok (.slice (some ⟨w.heap.size, 0, none⟩) k k) (w.alloc (.cells (scs k) 50)) := by
  have h := run_make_struct 62 50 _ 4 32 Try.underlying62 info50 .i64 .i64 k (by omega) (by omega) w
  have e := made_rows St.row 4 (by omega) St.zero #[.bool false, .int .i64 0, .int .i64 0, .int .i64 0] rfl rfl k
  rw [h]
  unfold scs
  rw [← e]
  rfl

theorem region15 {ops : Array Oper} {Q : Exit → Act → World → Prop} (hchk : chk ops = true)
    (i1 : ∃ o, ops[1]? = some o ∧ o.guard = none ∧ o.dst = some 67 ∧ o.op = .buildSlice 48 0 #[])
    (i3 : ∃ o, ops[3]? = some o ∧ o.guard = none ∧ o.dst = some 69 ∧ o.type = 48 ∧ o.op = .call { callee := .builtin .append, args := #[.tmp 67, .tmp 68], argTypes := #[48, 48] })
    (i5 : IsMake ops 5 71 70 41) (i7 : IsMake ops 7 73 72 55) (i9 : IsMake ops 9 75 74 41) (i11 : IsMake ops 11 77 76 62)
    (t0 : Array Value) (hsz : 80 ≤ t0.size) {pa : Option Addr} {k cap hh : Nat} {js : List Jb} {w0 w : World} (e68 : t0[68]? = some (.slice pa k cap)) (e70 : t0[70]? = some (.int .i64 (k : Int))) (e72 : t0[72]? = some (.int .i64 (k : Int))) (e74 : t0[74]? = some (.int .i64 (k : Int))) (e76 : t0[76]? = some (.int .i64 (k : Int)))
    (hJ : JobsAt w0 pa js) (hl : js.length = k) (k8 : k ≤ 8) (hh0 : w0.heap.size = hh) (hB : Below hh w0 w) (hs : hh ≤ w.heap.size)
    (hfin : ∀ x1 x3 x5 x7 x9 x11 W, Fresh w0 hh k js true true true true true true x1 x3 x5 x7 x9 x11 W → wpAny Try.prog .any ops Q 4 #[true, true, true, true, true, true, true, true, true, true, true, true, false, false, false, false] ⟨six t0 x1 x3 x5 x7 x9 x11, []⟩ W) :
    wpAny Try.prog .any ops Q 10 #[true, false, true, false, true, false, true, false, true, false, true, false, false, false, false, false] ⟨t0, []⟩ w := by
  refine wpAny_grow (fun f L a w => ∃ b1 b3 b5 b7 b9 b11 x1 x3 x5 x7 x9 x11, L = #[true, b1, true, b3, true, b5, true, b7, true, b9, true, b11, false, false, false, false] ∧ (b3 = true → b1 = true) ∧ f = 4 + (!b1).toNat + (!b3).toNat + (!b5).toNat + (!b7).toNat + (!b9).toNat + (!b11).toNat ∧ a = ⟨six t0 x1 x3 x5 x7 x9 x11, []⟩ ∧ Fresh w0 hh k js b1 b3 b5 b7 b9 b11 x1 x3 x5 x7 x9 x11 w) ?_ 10 _ _ _ ⟨false, false, false, false, false, false, _, _, _, _, _, _, rfl, fun h => h, rfl, by rw [six_self], hB, hs, fun h => Bool.noConfusion h, fun h => Bool.noConfusion h, fun h => Bool.noConfusion h, fun h => Bool.noConfusion h, fun h => Bool.noConfusion h, fun h => Bool.noConfusion h, fun h => Bool.noConfusion h⟩
  rintro f L a w ⟨b1, b3, b5, b7, b9, b11, x1, x3, x5, x7, x9, x11, rfl, h31, rfl, rfl, F⟩
  by_cases hall : b1 = true ∧ b3 = true ∧ b5 = true ∧ b7 = true ∧ b9 = true ∧ b11 = true
  · obtain ⟨rfl, rfl, rfl, rfl, rfl, rfl⟩ := hall
    exact .inl (hfin _ _ _ _ _ _ _ F)
  · have hc := chk_at hchk b1 b3 b5 b7 b9 b11
    have hne : (b1 && b3 && b5 && b7 && b9 && b11) = false := by
      revert hall; cases b1 <;> cases b3 <;> cases b5 <;> cases b7 <;> cases b9 <;> cases b11 <;> simp
    have h31' : (b3 && !b1) = false := by
      revert h31; cases b1 <;> cases b3 <;> simp
    unfold chk1 at hc
    rw [hne, h31', Bool.false_or, Bool.false_or, Bool.and_eq_true, List.all_eq_true] at hc
    obtain ⟨hc1, hc2⟩ := hc
    refine .inr ⟨3 + (!b1).toNat + (!b3).toNat + (!b5).toNat + (!b7).toNat + (!b9).toNat + (!b11).toNat, by omega, ?_, ?_⟩
    · intro e; rw [e] at hc1; simp at hc1
    · intro i hi
      have hci := hc2 i hi
      simp only [Bool.or_eq_true, Bool.and_eq_true, beq_iff_eq, Bool.not_eq_true'] at hci
      rcases hci with ((((⟨rfl, rfl⟩ | ⟨⟨rfl, rfl⟩, rfl⟩) | ⟨rfl, rfl⟩) | ⟨rfl, rfl⟩) | ⟨rfl, rfl⟩) | ⟨rfl, rfl⟩
      · obtain ⟨o, ho, hg, hd, hop⟩ := i1
        have e3 : b3 = false := by cases b3 with | false => rfl | true => exact Bool.noConfusion (h31 rfl)
        subst e3
        refine op_val ho hg _ _ (exec_build0 hop (run_build0 w)) ?_
        rw [hd, six_put67]
        exact ⟨true, false, b5, b7, b9, b11, _, _, _, _, _, _, rfl, fun h => Bool.noConfusion h, by simp <;> omega, rfl, F.do1⟩
      · obtain ⟨o, ho, hg, hd, hty, hop⟩ := i3
        obtain ⟨v, w', hr, F'⟩ := F.do3 (pa := pa) (cap := cap) (hJ.below F.below (by omega)) hl k8
        refine op_val ho hg v w' (exec_append hop hty (eval_tmp (six_67 hsz)) (eval_tmp ((six_get (by omega) (by omega) (by omega) (by omega) (by omega) (by omega)).trans e68)) hr) ?_
        rw [hd, six_put69]
        exact ⟨true, true, b5, b7, b9, b11, _, _, _, _, _, _, rfl, fun _ => rfl, by simp <;> omega, rfl, F'⟩
      · obtain ⟨o, ho, hg, hd, hop⟩ := i5
        have ev := eval_tmp ((six_get (t := t0) (x1 := x1) (x3 := x3) (x5 := x5) (x7 := x7) (x9 := x9) (x11 := x11) (j := 70) (by omega) (by omega) (by omega) (by omega) (by omega) (by omega)).trans e70)
        refine op_val ho hg _ _ (exec_make hop ev ev (mk3 k k8 w)) ?_
        rw [hd, six_put71]
        exact ⟨b1, b3, true, b7, b9, b11, _, _, _, _, _, _, rfl, h31, by simp <;> omega, rfl, F.do5⟩
      · obtain ⟨o, ho, hg, hd, hop⟩ := i7
        have ev := eval_tmp ((six_get (t := t0) (x1 := x1) (x3 := x3) (x5 := x5) (x7 := x7) (x9 := x9) (x11 := x11) (j := 72) (by omega) (by omega) (by omega) (by omega) (by omega) (by omega)).trans e72)
        refine op_val ho hg _ _ (exec_make hop ev ev (mk2 k k8 w)) ?_
        rw [hd, six_put73]
        exact ⟨b1, b3, b5, true, b9, b11, _, _, _, _, _, _, rfl, h31, by simp <;> omega, rfl, F.do7⟩
      · obtain ⟨o, ho, hg, hd, hop⟩ := i9
        have ev := eval_tmp ((six_get (t := t0) (x1 := x1) (x3 := x3) (x5 := x5) (x7 := x7) (x9 := x9) (x11 := x11) (j := 74) (by omega) (by omega) (by omega) (by omega) (by omega) (by omega)).trans e74)
        refine op_val ho hg _ _ (exec_make hop ev ev (mk3 k k8 w)) ?_
        rw [hd, six_put75]
        exact ⟨b1, b3, b5, b7, true, b11, _, _, _, _, _, _, rfl, h31, by simp <;> omega, rfl, F.do9⟩
      · obtain ⟨o, ho, hg, hd, hop⟩ := i11
        have ev := eval_tmp ((six_get (t := t0) (x1 := x1) (x3 := x3) (x5 := x5) (x7 := x7) (x9 := x9) (x11 := x11) (j := 76) (by omega) (by omega) (by omega) (by omega) (by omega) (by omega)).trans e76)
        refine op_val ho hg _ _ (exec_make hop ev ev (mk50 k k8 w)) ?_
        rw [hd, six_put77]
        exact ⟨b1, b3, b5, b7, b9, true, _, _, _, _, _, _, rfl, h31, by simp <;> omega, rfl, F.do11⟩
end Go.Proofs.Ytkgeapmafpeapaa
