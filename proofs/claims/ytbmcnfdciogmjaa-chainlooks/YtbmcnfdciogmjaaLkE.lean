/-
  What was seen grows by one.
-/
import Derived.Test.YtbmcnfdciogmjaaLkD
namespace Go.Proofs.Ytbmcnfdciogmjaa
open Go.RowKit Go.Sort

/-- An append whose run is known. -/
theorem wpList_append_eq {P : Program} {w : World} {ops : Array Oper} {rest : List Oper} {o : Oper} {a : Act} {Q : Exit → Act → World → Prop} (hgd : o.guard = none) (s x : Operand) (t : TypeId)
    (ho : o.op = .call { callee := .builtin .append, args := #[s, x], argTypes := #[t, t] }) (ty : TypeId) (hty : o.type = ty) (vs vx : Value) (hs : a.eval s = vs) (hx : a.eval x = vx) (v' : Value) (w' : World)
    (hrun : (Builtin.append_ #[t, t] ty #[vs, vx]).run P w = .ok v' w') (h : wpList P ops Q rest (a.put o.dst v') w') : wpList P ops Q (o :: rest) a w := by
  refine wpList_plain hgd fun K hK => ?_
  unfold Oper.wp execOp
  simp only [ho, resolve, invoke, builtin, Sem.run_bind, Sem.run_pure, Result.andThen_ok, List.map_toArray, List.map_cons, List.map_nil, hs, hx, hty, hrun]
  exact hK _ _ h
theorem info2 : (Try.prog.info? 2).map (fun i => (i.zero, i.size, i.bytes)) = some (some (.int .i64 0), 1, 8) := by kernel_rfl
theorem app_seen {base : Nat} {W : World} {sv : Value} {seen : List Int} (u : Int) (hO : W.ownsRow base 2 1 sv seen.length (ints seen)) (hl : seen.length ≤ 1000) (hb : base ≤ W.heap.size) :
    ∃ v' W', (Builtin.append_ #[52, 52] 52 #[sv, .slice (some ⟨W.heap.size, 0, none⟩) 1 1]).run Try.prog (W.alloc (.cells #[.int .i64 u] 2)) = .ok v' W' ∧ W'.ownsRow base 2 1 v' (seen.length + 1) (ints seen ++ [.int .i64 u]) ∧ KT (· = 2) W W' ∧ (∀ w0, Below base w0 W → Below base w0 W') ∧ ∃ a c, v' = .slice a (seen.length + 1) c := by
  obtain ⟨i0, hi, hz0, hz1, hz2⟩ := info_parts info2
  have own2 := own_keep (W' := W.alloc (.cells #[.int .i64 u] 2)) hO (fun j cur hc => Below.heap_alloc _ _ _ (lt_of_heap hc))
  have hb2 : base ≤ (W.alloc (.cells #[.int .i64 u] 2)).heap.size := by simp; omega
  obtain ⟨v1, W1, r1, own1, gr1, -, -⟩ := run_append_own_at (P := Try.prog) (W.alloc (.cells #[.int .i64 u] 2)) base 52 52 2 i0 (.int .i64 0) 1 8 Try.underlying52 hi hz0 hz1 hz2 rfl (by decide) sv seen.length (ints seen) own2 ⟨W.heap.size, 0, none⟩ 1 1 [.int .i64 u]
    rfl
    (by
      intro j x hj
      match j, hj with
      | 0, hj => simp at hj; subst hj; simp [Addr.add])
    (by intro x hx; simp at hx; subst hx; rfl) (by unfold maxLen; omega) (by omega) hb2
  refine ⟨v1, W1, r1, own1, kt_app own2 gr1, fun w0 hB => ?_, own_form own1⟩
  exact below_grown (hB.trans (((Below.refl _ W).alloc (Nat.le_refl _) _).mono hb)) own2 gr1 hb2
end Go.Proofs.Ytbmcnfdciogmjaa
