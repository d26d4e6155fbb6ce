/-
  A region that draws its order and makes several new blocks: whatever the order, in the end all of them lie there.
-/
import Derived.Test.YtkgeapmafpeapaaRIn
namespace Go.Proofs.Ytkgeapmafpeapaa
open Go.RowKit

/-- What holds at every state of a region that draws its order holds at its end. -/
theorem wpAny_grow {P : Program} {md : Region.Mode} {ops : Array Oper} {Q : Exit → Act → World → Prop} (I : Nat → Array Bool → Act → World → Prop)
    (h : ∀ f L a w, I f L a w → wpAny P md ops Q f L a w ∨ (∃ g, f = g + 1 ∧ Region.ready md ops L ≠ [] ∧ ∀ i ∈ Region.ready md ops L, wpOp P ops Q i (I g (L.setIfInBounds i true)) a w)) :
    ∀ f L a w, I f L a w → wpAny P md ops Q f L a w := by
  intro f
  induction f with
  | zero =>
    intro L a w hI
    rcases h _ _ _ _ hI with h1 | ⟨g, hg, -⟩
    · exact h1
    · omega
  | succ f ih =>
    intro L a w hI
    rcases h _ _ _ _ hI with h1 | ⟨g, hg, hne, hr⟩
    · exact h1
    · obtain rfl : f = g := by omega
      exact ⟨fun h0 => absurd h0 hne, fun i hi => wpOp_mono (fun a w hK => ih _ _ _ hK) (hr i hi)⟩

theorem op_val {P : Program} {ops : Array Oper} {Q : Exit → Act → World → Prop} {i : Nat} {o : Oper} {a : Act} {w : World} {K : Act → World → Prop} (ho : ops[i]? = some o) (hgd : o.guard = none) (v : Value) (w' : World)
    (hrun : (execOp a.eval o).run P w = .ok (.value v) w') (h : K (a.put o.dst v) w') : wpOp P ops Q i K a w := by
  refine wpOp_step ho fun K' hK => ?_
  have hw : Region.wanted o (yielded ops a.tmps) = true := by simp [Region.wanted, hgd]
  rw [if_pos hw]
  unfold Oper.wp
  rw [hrun]
  exact hK _ _ h

theorem exec_make {P : Program} {o : Oper} {a : Act} {w w' : World} {t : TypeId} {l c : Operand} {v x y : Value} (ho : o.op = .makeSlice t l c) (hl : a.eval l = x) (hc : a.eval c = y) (h : (Instr.makeSlice t x y).run P w = .ok v w') : (execOp a.eval o).run P w = .ok (.value v) w' := by
  unfold execOp
  simp only [ho, hl, hc, Sem.run_bind, Sem.run_pure, Result.andThen_ok, h]
theorem exec_build0 {P : Program} {o : Oper} {a : Act} {w w' : World} {t : TypeId} {v : Value} (ho : o.op = .buildSlice t 0 #[]) (h : (Instr.buildSlice t 0 #[]).run P w = .ok v w') : (execOp a.eval o).run P w = .ok (.value v) w' := by
  unfold execOp
  simp only [ho, Sem.run_bind, Sem.run_pure, Result.andThen_ok, h, List.map_toArray, List.map_nil]
theorem exec_append {P : Program} {o : Oper} {a : Act} {w w' : World} {t ty : TypeId} {s x : Operand} {v vs vx : Value} (ho : o.op = .call { callee := .builtin .append, args := #[s, x], argTypes := #[t, t] }) (hty : o.type = ty) (hs : a.eval s = vs) (hx : a.eval x = vx)
    (h : (Builtin.append_ #[t, t] ty #[vs, vx]).run P w = .ok v w') : (execOp a.eval o).run P w = .ok (.value v) w' := by
  unfold execOp
  simp only [ho, resolve, invoke, builtin, Sem.run_bind, Sem.run_pure, Result.andThen_ok, List.map_toArray, List.map_cons, List.map_nil, hs, hx, hty, h]

theorem run_build0 (w : World) : (Instr.buildSlice 48 0 #[]).run Try.prog w = .ok (.slice (some ⟨w.heap.size, 0, none⟩) 0 0) (w.alloc (.cells #[] 82)) := by
  obtain ⟨i0, hi, hz0, hz1, hz2⟩ := info_parts info82
  simp [Instr.buildSlice, run_underlying Try.underlying48, sizeOf, typeInfo, hi, Instr.fill, newRow]
  have e : Array.map (fun _ : Nat => (default : Value)) (Array.range 0) = #[] := by apply Array.eq_empty_of_size_eq_zero; simp
  rw [e]
theorem run_append0 (w : World) (g : Nat) (pa : Option Addr) (cap : Nat) : ∃ w', (Builtin.append_ #[48, 48] 48 #[.slice (some ⟨g, 0, none⟩) 0 0, .slice pa 0 cap]).run Try.prog w = .ok (.slice (some ⟨g, 0, none⟩) 0 0) w' ∧ w' = w := by
  obtain ⟨i0, hi, hz0, hz1, hz2⟩ := info_parts info82
  refine ⟨w, ?_, rfl⟩
  cases pa <;> simp [Builtin.append_, run_underlying Try.underlying48, sizeOf, typeInfo, hi, Builtin.lenOf, Builtin.firstCells, loadCells, loadCellsFrom, storeCells]
end Go.Proofs.Ytkgeapmafpeapaa
