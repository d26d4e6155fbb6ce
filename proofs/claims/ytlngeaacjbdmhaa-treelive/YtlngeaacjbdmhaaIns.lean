/-
  The contract of slices.Insert of one entry: those behind it move down, in their row or in a new one.
-/
import Derived.Test.YtlngeaacjbdmhaaDel
import Derived.Lib.Overlaps
import Derived.Lib.AppendZerosOnto
import Derived.Maps.AppendAt
import Derived.Laws.IdiomCopy
import Derived.Laws.NewBlocks
import Derived.Shelf.RegionOpenPlain
namespace Go.Proofs.Ytlngeaacjbdmhaa
open Go.RowKit
attribute [local go_sem ↓] Go.wp_at_zero Go.wp_at_succ

/-- copy of elements of two cells. -/
theorem run_copy2 {P : Program} (w : World) (dT sT ty elem : TypeId) (b o dLen dCap : Nat) (a : Addr) (sLen sCap m : Nat) (cs : List Value)
    (hu : P.underlying dT = some (.slice elem)) (hs : (P.info? elem).map (·.size) = some 2) (hm : m = Nat.min sLen dLen) (hn : cs.length = m * 2)
    (hsrc : ∀ j v, cs[j]? = some v → w.cell? (a.add j) = some v) (hc : ∀ j, j < cs.length → (w.cell? ⟨b, o + j, none⟩).isSome = true) (hf : ∀ j, j < cs.length → w.frozen? ⟨b, o + j, none⟩ = false) (h1 : ∀ v ∈ cs, v.oneCell' = true) :
    (Builtin.copy_ #[dT, sT] ty #[.slice (some ⟨b, o, none⟩) dLen dCap, .slice (some a) sLen sCap]).run P w = .ok (goInt m) (w.setCells b o cs) := by
  have hl := run_loadCells_list (P := P) w a cs hsrc
  have hst := run_storeCells_cells (P := P) b o cs 0 w (by simpa using hc) (by simpa using hf) h1
  rw [hn] at hl
  cases hq : P.info? elem with
  | none => simp [hq] at hs
  | some i =>
    have hi : i.size = 2 := by simpa [hq] using hs
    simp [Builtin.copy_, run_underlying hu, Builtin.lenOf, Builtin.firstCells, sizeOf, typeInfo, hq, hi, ← hm, hl, hst]
theorem wpList_copy_eq {P : Program} (w : World) {ops : Array Oper} {rest : List Oper} {o : Oper} {a : Act} {Q : Exit → Act → World → Prop} (hgd : o.guard = none) (d s : Operand) (t t' : TypeId)
    (ho : o.op = .call { callee := .builtin .copy, args := #[d, s], argTypes := #[t, t'] }) (v u : Value) (hd : a.eval d = v) (hs : a.eval s = u) {v' : Value} {w' : World}
    (hr : (Builtin.copy_ #[t, t'] o.type #[v, u]).run P w = .ok v' w') (h : wpList P ops Q rest (a.put o.dst v') w') : wpList P ops Q (o :: rest) a w :=
  wpList_plain hgd fun _ hK => by
    unfold Oper.wp execOp
    simp only [ho, resolve, invoke, builtin, Sem.run_bind, Sem.run_pure, Result.andThen_ok, List.map_toArray, List.map_cons, List.map_nil, hd, hs, hr]
    exact hK _ _ h
theorem step_copy_eq {P : Program} {ops : Array Oper} {o : Oper} {a : Act} {w : World} {K : Act → World → Prop} {Q : Exit → Act → World → Prop} {E : Prop}
    (hg : o.guard = none) (d x : Operand) (dT sT : TypeId) (hop : o.op = Op.call { callee := Callee.builtin Builtin.copy, args := #[d, x], argTypes := #[dT, sT] })
    (v u : Value) (hd : a.eval d = v) (hx : a.eval x = u) {v' : Value} {w' : World} (hr : (Builtin.copy_ #[dT, sT] o.type #[v, u]).run P w = .ok v' w') (hK : K (a.put o.dst v') w') :
    if Region.wanted o (yielded ops a.tmps) = true then Oper.wp P o a w K Q else E := by
  have hw : Region.wanted o (yielded ops a.tmps) = true := by simp [Region.wanted, hg]
  rw [if_pos hw]
  unfold Oper.wp
  simp [execOp, hop, resolve, invoke, builtin, hd, hx, hr, Result.andThen]
  exact hK
theorem wpList_append_eq {P : Program} {w : World} {ops : Array Oper} {rest : List Oper} {o : Oper} {a : Act} {Q : Exit → Act → World → Prop} (hgd : o.guard = none) (s x : Operand) (t : TypeId)
    (ho : o.op = .call { callee := .builtin .append, args := #[s, x], argTypes := #[t, t] }) (ty : TypeId) (hty : o.type = ty) (vs vx : Value) (hs : a.eval s = vs) (hx : a.eval x = vx) (v' : Value) (w' : World)
    (hrun : (Builtin.append_ #[t, t] ty #[vs, vx]).run P w = .ok v' w') (h : wpList P ops Q rest (a.put o.dst v') w') : wpList P ops Q (o :: rest) a w := by
  refine wpList_plain hgd fun K hK => ?_
  unfold Oper.wp execOp
  simp only [ho, resolve, invoke, builtin, Sem.run_bind, Sem.run_pure, Result.andThen_ok, List.map_toArray, List.map_cons, List.map_nil, hs, hx, hty, hrun]
  exact hK _ _ h
theorem wpList_append_eqz {P : Program} {w : World} {ops : Array Oper} {rest : List Oper} {o : Oper} {a : Act} {Q : Exit → Act → World → Prop} (hgd : o.guard = none) (s x : Operand) (t t2 : TypeId)
    (ho : o.op = .call { callee := .builtin .append, args := #[s, x], argTypes := #[t, t2] }) (ty : TypeId) (hty : o.type = ty) (vs vx : Value) (hs : a.eval s = vs) (hx : a.eval x = vx) (v' : Value) (w' : World)
    (hrun : (Builtin.append_ #[t, t2] ty #[vs, vx]).run P w = .ok v' w') (h : wpList P ops Q rest (a.put o.dst v') w') : wpList P ops Q (o :: rest) a w := by
  refine wpList_plain hgd fun K hK => ?_
  unfold Oper.wp execOp
  simp only [ho, resolve, invoke, builtin, Sem.run_bind, Sem.run_pure, Result.andThen_ok, List.map_toArray, List.map_cons, List.map_nil, hs, hx, hty, hrun]
  exact hK _ _ h
theorem size_E : (Try.prog.info? 92).map (·.size) = some 2 := by kernel_rfl
/-- What Insert leaves: the row with one more; who held it otherwise is as it was. -/
structure Ins (base : Nat) (w w' : World) (v v' : Value) (n : Nat) (es : Ents) : Prop where
  own : w'.ownsRow base 92 2 v' n (rowsOf row es)
  gr : w.grownBy w' v.ownBlock
  at' : v'.ownBlock = v.ownBlock ∨ v'.ownBlock = some w.heap.size
  len : es.length = n
set_option maxRecDepth 100000 in
set_option maxHeartbeats 1000000 in
theorem insert_end (base : Nat) (v : Value) (n : Nat) (es : Ents) (s : ByteArray) (m : Int) (vb : Nat) (w : World) (hn : es.length = n) (hown : w.ownsRow base 92 2 v n (rowsOf row es))
    (hv : w.heap[vb]? = some (.cells #[.string s, .int .i64 m] 92)) (hl : n < 1000) (hbase : base ≤ w.heap.size) :
    Calls Try.prog 45 #[v, .int .i64 (n : Int), .slice (some ⟨vb, 0, none⟩) 1 1] w fun e w' => ∃ v', e = .returned v' ∧ Ins base w w' v v' (n + 1) (es ++ [(s, m)]) := by
  obtain ⟨i0, hi0, hz0, hz1, hz2⟩ := info_parts infoE
  obtain ⟨v', w', hr, h1, h2, _, h4⟩ := run_append_own_at (P := Try.prog) w base 59 59 92 i0 (.agg #[.string ByteArray.empty, .int .i64 0]) 2 24 Try.underlying59 hi0 hz0 hz1 hz2 rfl (by decide) v n (rowsOf row es) hown ⟨vb, 0, none⟩ 1 1 (row (s, m)) rfl
    (fun j u hj => by
      rw [Addr.add_lit, Nat.zero_add, cell_of hv]
      simpa [row] using hj) (by intro u hu; simp [row] at hu; rcases hu with rfl | rfl <;> rfl) (by unfold maxLen; omega) (by omega) hbase
  have hr2 : ∀ ty, (Builtin.append_ #[59, 59] ty #[v, .slice (some ⟨vb, 0, none⟩) 1 1]).run Try.prog w = .ok v' w' := fun ty => by rw [← hr]; rfl
  have F : Hid (Ins base w w' v v' (n + 1) (es ++ [(s, m)])) := ⟨by rw [rowsOf_append]; exact h1, h2, h4, by simp [hn]⟩
  have q1 : (n : Int) < 1000 := by omega
  obtain ⟨-, ⟨rfl, hz⟩ | ⟨g, cap, cur, rfl, _, _, hcap, hcm, _⟩⟩ := hown
  · subst hz
    clear h1 h2 h4 hv hr hi0 hz0 hz1 hz2 hn hbase
    go_enter Try.func45, Try.ntmps45
    go_wp2_with (at_builtin; refine wpList_append_eq rfl _ _ 59 rfl 59 rfl _ _ rfl rfl _ _ (hr2 _) ?_)
    go_ret
    exact ⟨_, rfl, F.out⟩
  · have hmx : (cap : Int) ≤ 9223372036854775807 := by unfold maxLen at hcm; omega
    have q2 : (0 : Int) ≤ (n : Int) := by omega
    have q3 : (n : Int) ≤ (cap : Int) := by omega
    clear h1 h2 h4 hv hr hi0 hz0 hz1 hz2 hn hbase hcm
    by_cases hcn : cap = n
    · subst hcn
      go_enter Try.func45, Try.ntmps45
      go_wp2_with (at_builtin; refine wpList_append_eq rfl _ _ 59 rfl 59 rfl _ _ rfl rfl _ _ (hr2 _) ?_)
      go_ret
      exact ⟨_, rfl, F.out⟩
    · go_enter Try.func45, Try.ntmps45
      go_wp2_with (at_builtin; refine wpList_append_eq rfl _ _ 59 rfl 59 rfl _ _ rfl rfl _ _ (hr2 _) ?_)
      go_ret
      exact ⟨_, rfl, F.out⟩
end Go.Proofs.Ytlngeaacjbdmhaa
