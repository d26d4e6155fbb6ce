/-
  The document's table: a row without one of its pairs, laid anew.
-/
import Derived.Test.YtbmcnfdciogmjaaRefC
import Derived.Maps.AppendAt
import Derived.Deep.RegionLaw
namespace Go.Proofs.Ytbmcnfdciogmjaa
open Go.RowKit Go.Sort
attribute [local go_sem ↓] Go.wp_at_zero Go.wp_at_succ

theorem pairsV_append (a b : Pairs) : pairsV (a ++ b) = pairsV a ++ pairsV b := by simp [pairsV]
theorem pairsV_cons (x : ByteArray × Int) (xs : Pairs) : pairsV (x :: xs) = .string x.1 :: .int .i64 x.2 :: pairsV xs := rfl
theorem pairsV_one (m : Pairs) : ∀ u ∈ pairsV m, u.oneCell' = true := by
  intro u hu
  simp only [pairsV, List.mem_flatMap, pairV] at hu
  obtain ⟨a, _, ha⟩ := hu
  simp at ha
  rcases ha with rfl | rfl <;> rfl
theorem pairsV_take : ∀ (xs : Pairs) (k : Nat), pairsV (xs.take k) = (pairsV xs).take (k * 2)
  | xs, 0 => by simp [pairsV]
  | [], k + 1 => by simp [pairsV]
  | x :: xs, k + 1 => by
    rw [List.take_succ_cons, pairsV_cons, pairsV_cons, pairsV_take xs k, show (k + 1) * 2 = k * 2 + 1 + 1 by omega, List.take_succ_cons, List.take_succ_cons]
theorem pairsV_drop : ∀ (xs : Pairs) (k : Nat), pairsV (xs.drop k) = (pairsV xs).drop (k * 2)
  | xs, 0 => by simp
  | [], k + 1 => by simp [pairsV]
  | x :: xs, k + 1 => by
    rw [List.drop_succ_cons, pairsV_cons, pairsV_drop xs k, show (k + 1) * 2 = k * 2 + 1 + 1 by omega, List.drop_succ_cons, List.drop_succ_cons]
/-- An append whose run is known, at a step of a region that draws its order. -/
theorem step_append_eq {P : Program} {w : World} {ops : Array Oper} {o : Oper} {a : Act} {K : Act → World → Prop} {Q : Exit → Act → World → Prop} {E : Prop} (hgd : o.guard = none) (s x : Operand) (t : TypeId)
    (ho : o.op = .call { callee := .builtin .append, args := #[s, x], argTypes := #[t, t] }) (ty : TypeId) (hty : o.type = ty) (vs vx : Value) (hs : a.eval s = vs) (hx : a.eval x = vx) (v' : Value) (w' : World)
    (hrun : (Builtin.append_ #[t, t] ty #[vs, vx]).run P w = .ok v' w') (h : K (a.put o.dst v') w') :
    if Region.wanted o (yielded ops a.tmps) = true then Oper.wp P o a w K Q else E := by
  have hw : Region.wanted o (yielded ops a.tmps) = true := by simp [Region.wanted, hgd]
  rw [if_pos hw]
  unfold Oper.wp execOp
  simp only [ho, resolve, invoke, builtin, Sem.run_bind, Sem.run_pure, Result.andThen_ok, List.map_toArray, List.map_cons, List.map_nil, hs, hx, hty, hrun]
  exact h
theorem own_cells {base : Nat} {W : World} {e : TypeId} {g l cap n s : Nat} {xs : List Value} (h : W.ownsRow base e s (.slice (some ⟨g, 0, none⟩) l cap) n xs) :
    ∀ (j : Nat) (u : Value), xs[j]? = some u → W.cell? ⟨g, j, none⟩ = some u := by
  obtain ⟨hl, ⟨h1, hz⟩ | ⟨g', cap', cur, h1, hgb, hgg, hcap, hcm, hcs, htk⟩⟩ := h
  · simp at h1
  · simp only [Value.slice.injEq, Option.some.injEq, Addr.mk.injEq] at h1
    obtain ⟨⟨rfl, -, -⟩, rfl, rfl⟩ := h1
    intro j u hj
    have hj2 := (List.getElem?_eq_some_iff.1 hj).1
    rw [cell_of hgg, ← hj, ← htk, List.getElem?_take_of_lt (by omega)]
    simp
theorem addr_add0 (b off i : Nat) : (⟨b, off, none⟩ : Addr).add i = ⟨b, off + i, none⟩ := by unfold Addr.add; split <;> simp_all
theorem erase_run (base : Nat) (V : World) (g cap l k : Nat) (xs : Pairs) (hO : V.ownsRow base 73 2 (.slice (some ⟨g, 0, none⟩) l cap) l (pairsV xs)) (hl : xs.length = l) (hk : k < l) (h64 : l ≤ 1000) (hb : base ≤ V.heap.size) (hg : g < V.heap.size) (p2 : Addr) (hp : k + 1 < l → p2 = ⟨g, (k + 1) * 2, none⟩) :
    ∃ (v1 v2 : Value) (W1 W2 : World),
      (Builtin.append_ #[68, 68] 68 #[.slice (some ⟨V.heap.size, 0, none⟩) 0 0, .slice (some ⟨g, 0, none⟩) k cap]).run Try.prog (V.alloc (.cells #[] 73)).drew = .ok v1 W1 ∧
      (Builtin.append_ #[68, 68] 68 #[v1, .slice (some p2) (l - (k + 1)) (cap - (k + 1))]).run Try.prog W1 = .ok v2 W2 ∧
      W2.ownsRow base 73 2 v2 (xs.take k ++ xs.drop (k + 1)).length (pairsV (xs.take k ++ xs.drop (k + 1))) ∧ Below V.heap.size V W2 ∧ (∀ j, v2.ownBlock = some j → V.heap.size ≤ j) ∧ Below V.heap.size V W1 := by
  obtain ⟨i0, hi, hz0, hz1, hz2⟩ := info_parts info73
  have hce := own_cells hO
  have own0 : (V.alloc (.cells #[] 73)).drew.ownsRow base 73 2 (.slice (some ⟨V.heap.size, 0, none⟩) 0 0) 0 [] :=
    ⟨rfl, .inr ⟨V.heap.size, 0, #[], rfl, hb, putAll (w := V) (.cells #[] 73) V.heap.size rfl, Nat.le_refl _, by unfold maxLen; omega, rfl, rfl⟩⟩
  have hB0 : Below V.heap.size V (V.alloc (.cells #[] 73)).drew := ((Below.refl _ V).alloc (Nat.le_refl _) _).drew
  obtain ⟨v1, W1, r1, own1, gr1, -, at1⟩ := run_append_own_at (P := Try.prog) (V.alloc (.cells #[] 73)).drew base 68 68 73 i0 (.agg #[.string ByteArray.empty, .int .i64 0]) 2 24 Try.underlying68 hi hz0 hz1 hz2 rfl (by decide) _ 0 [] own0 ⟨g, 0, none⟩ k cap (pairsV (xs.take k))
    (by rw [pairsV_len]; simp; omega)
    (by
      intro j u hj
      rw [addr_add0, Nat.zero_add]
      refine (hB0.cell (p := ⟨g, j, none⟩) hg).trans (hce j u ?_)
      have hj2 := (List.getElem?_eq_some_iff.1 hj).1
      rw [pairsV_take] at hj hj2
      rwa [List.getElem?_take_of_lt (by simp at hj2; omega)] at hj)
    (pairsV_one _) (by unfold maxLen; omega) (by omega) (by simp; omega)
  have hs1 : V.heap.size < W1.heap.size := by have := gr1.size; simp at this; omega
  have hB1 : Below V.heap.size V W1 := by
    refine hB0.trans ⟨gr1.os, gr1.tape, gr1.output, gr1.size, fun j hj => gr1.block j (by simp; omega) ?_⟩
    simp only [Value.ownBlock, ne_eq, Option.some.injEq]; omega
  have hb1 : ∀ j, v1.ownBlock = some j → V.heap.size ≤ j := by
    intro j hj
    rcases at1 with e | e <;> rw [e] at hj <;> simp [Value.ownBlock] at hj <;> omega
  obtain ⟨v2, W2, r2, own2, gr2, -, at2⟩ := run_append_own_at (P := Try.prog) W1 base 68 68 73 i0 (.agg #[.string ByteArray.empty, .int .i64 0]) 2 24 Try.underlying68 hi hz0 hz1 hz2 rfl (by decide) v1 _ _ own1 p2 (l - (k + 1)) (cap - (k + 1)) (pairsV (xs.drop (k + 1)))
    (by rw [pairsV_len]; simp; omega)
    (by
      intro j u hj
      have hj2 := (List.getElem?_eq_some_iff.1 hj).1
      have hkl : k + 1 < l := by rw [pairsV_len] at hj2; simp at hj2; omega
      rw [hp hkl, addr_add0]
      refine (hB1.cell (p := ⟨g, (k + 1) * 2 + j, none⟩) hg).trans (hce _ u ?_)
      rw [pairsV_drop, List.getElem?_drop] at hj
      exact hj)
    (pairsV_one _) (by unfold maxLen; omega) (by omega) (by omega)
  refine ⟨v1, v2, W1, W2, r1, r2, ?_, ?_, ?_, hB1⟩
  · have e1 : (xs.take k ++ xs.drop (k + 1)).length = 0 + k + (l - (k + 1)) := by simp; omega
    rw [e1, pairsV_append]
    simpa using own2
  · refine hB1.trans ⟨gr2.os, gr2.tape, gr2.output, gr2.size, fun j hj => gr2.block j (by omega) ?_⟩
    intro e
    have := hb1 j e.symm
    omega
  · intro j hj
    rcases at2 with e | e
    · rw [e] at hj; exact hb1 j hj
    · rw [e] at hj; simp at hj; omega

end Go.Proofs.Ytbmcnfdciogmjaa
