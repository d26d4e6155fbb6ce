/-
  The contract of moveToEnd: the key stands behind all others, as often pinned as it was.
-/
import Derived.Test.YtjcjibjagjiedaaOps
import Derived.Maps.AppendAt
namespace Go.Proofs.Ytjcjibjagjiedaa
open Go.RowKit
attribute [local go_sem ↓] Go.wp_at_zero Go.wp_at_succ

/-- An append whose run is known, at a step of a region that draws its order. -/
theorem step_append_eq {P : Program} {w : World} {ops : Array Oper} {o : Oper} {a : Act} {K : Act → World → Prop} {Q : Exit → Act → World → Prop} {E : Prop} (hgd : o.guard = none) (s x : Operand) (t : TypeId)
    (ho : o.op = .call { callee := .builtin .append, args := #[s, x], argTypes := #[t, t] }) (ty : TypeId) (hty : o.type = ty) (vs vx : Value) (hs : a.eval s = vs) (hx : a.eval x = vx) (v' : Value) (w' : World)
    (hrun : (Builtin.append_ #[t, t] ty #[vs, vx]).run P w = .ok v' w') (h : K (a.put o.dst v') w') :
    if Region.wanted o (yielded ops a.tmps) = true then Oper.wp P o a w K Q else E := by
  have hw : Region.wanted o (yielded ops a.tmps) = true := by simp [Region.wanted, hgd]
  rw [if_pos hw]
  unfold Oper.wp execOp
  simp only [ho, resolve, invoke, builtin, Sem.run_bind, Sem.run_pure, Result.andThen_ok, List.map_toArray, List.map_cons, List.map_nil, hs, hx, hty, hrun]
  exact h
theorem cells_new (w : World) (cs : List Value) (t : TypeId) : ∀ (j : Nat) (u : Value), cs[j]? = some u → (w.alloc (.cells cs.toArray t)).cell? ((⟨w.heap.size, 0, none⟩ : Addr).add j) = some u := by
  intro j u hj
  have ea : (⟨w.heap.size, 0, none⟩ : Addr).add j = ⟨w.heap.size, j, none⟩ := by unfold Addr.add; split <;> simp_all
  rw [ea, cell_of (putAll (w := w) (.cells cs.toArray t) w.heap.size rfl), List.getElem?_toArray]; exact hj
/-- One entry more, behind the others. -/
theorem push_run {base : Nat} {X : World} {b : Nat} {mo : Int} {es : Ents} (k : ByteArray) (v : Int) (L : Ls base X b mo es) (hl : es.length ≤ 1000) {a : Option Addr} {m cap : Nat} (a1 : X.cell? ⟨b, 1, none⟩ = some (.slice a m cap)) :
    ∃ (a' : Option Addr) (cap' : Nat) (W5 : World), (Builtin.append_ #[45, 45] 45 #[.slice a m cap, .slice (some ⟨X.heap.size, 0, none⟩) 1 1]).run Try.prog (X.alloc (.cells #[.string k, .int .i64 v] 54)) = .ok (.slice a' (m + 1) cap') W5 ∧
      W5.cell? ⟨b, 1, none⟩ = some (.slice a m cap) ∧ W5.frozen? ⟨b, 1, none⟩ = false ∧ Ls base (W5.setCell ⟨b, 1, none⟩ (.slice a' (m + 1) cap')) b mo (es ++ [(k, v)]) ∧ Fr base b X (W5.setCell ⟨b, 1, none⟩ (.slice a' (m + 1) cap')) := by
  obtain ⟨i0, hi, hz0, hz1, hz2⟩ := info_parts info54
  obtain ⟨a2, cap2, h1, own⟩ := L.hb
  have e1 : X.cell? ⟨b, 1, none⟩ = some (.slice a2 es.length cap2) := by rw [cell_of h1]; rfl
  rw [a1] at e1
  simp only [Option.some.injEq, Value.slice.injEq] at e1
  obtain ⟨rfl, rfl, rfl⟩ := e1
  have own5 := own_keep (W' := X.alloc (.cells #[.string k, .int .i64 v] 54)) own (fun k cur hc => Below.heap_alloc X _ _ (lt_of_heap hc))
  obtain ⟨v', W5, hrun, own7, hgr, -, -⟩ := run_append_own_at (P := Try.prog) (X.alloc (.cells #[.string k, .int .i64 v] 54)) base 45 45 54 i0 _ 2 24 Try.underlying45 hi hz0 hz1 hz2 rfl (by decide) (.slice a es.length cap) _ _ own5 ⟨X.heap.size, 0, none⟩ 1 1 (row (k, v)) rfl (cells_new X (row (k, v)) 54) (by intro u hu; simp [row] at hu; rcases hu with rfl | rfl <;> rfl) (by unfold maxLen; omega) (by omega) (by simp; have := L.base_le; omega)
  obtain ⟨a', cap', rfl⟩ := own_form own7
  have hbA : (X.alloc (.cells #[.string k, .int .i64 v] 54)).heap[b]? = some (.cells #[.int .i64 mo, .slice a es.length cap] 47) := (Below.heap_alloc _ _ _ L.lt).trans h1
  have hb5 : W5.heap[b]? = some (.cells #[.int .i64 mo, .slice a es.length cap] 47) := (hgr.block b (lt_of_heap hbA) (own_ne own5 hbA (by simp))).trans hbA
  have hself : ∀ j, j ≠ b → (W5.setCell ⟨b, 1, none⟩ (.slice a' (es.length + 1) cap')).heap[j]? = W5.heap[j]? := fun j hj => Below.heap_setCell _ _ _ _ hj
  refine ⟨a', cap', W5, hrun, by rw [cell_of hb5]; rfl, frozen_of hb5 1, ⟨⟨a', cap', ?_, ?_⟩, L.kb⟩, ?_⟩
  · rw [heap_set hb5]; simp
  · rw [List.length_append, rowsOf_append]
    refine own_keep own7 fun j cur hc => hself j ?_
    rintro rfl
    rw [hb5] at hc
    simp at hc
  · have b1 : Below base X (X.alloc (.cells #[.string k, .int .i64 v] 54)) := ((Below.refl _ X).alloc (Nat.le_refl _) _).mono L.base_le
    have b2 := below_grown b1 own5 hgr (by simp; have := L.base_le; omega)
    refine ⟨b2.os, b2.tape, b2.output, by have := b2.size; simp [World.setCell]; omega, fun j hj => (hself j (by have := L.kb; omega)).trans (b2.block j hj), fun j o g1 g2 g3 => ?_⟩
    have hkA : (X.alloc (.cells #[.string k, .int .i64 v] 54)).heap[j]? = some o := (Below.heap_alloc _ _ _ (lt_of_heap g1)).trans g1
    rw [hself j g2, hgr.block j (lt_of_heap hkA) (own_ne own5 hkA g3), hkA]

/-- Behind all others. -/
def endM (es : Ents) (k : ByteArray) : Ents := dropM es k ++ [(k, pins es k)]
theorem pins_none {es : Ents} {k : ByteArray} (h : has es k = false) : pins es k = 0 := by
  have : es.length ≤ ix es k := by
    unfold ix
    rw [Nat.le_iff_lt_or_eq]
    right
    symm
    rw [List.findIdx_eq_length]
    intro p hp
    rw [decide_eq_false_iff_not]
    intro e
    exact has_false.1 h p.2 (by rw [← e]; exact hp)
  simp [pins, List.getElem?_eq_none this]
set_option maxRecDepth 100000 in
set_option maxHeartbeats 1000000 in
theorem move_any (base b : Nat) (mo : Int) (es : Ents) (key : ByteArray) (w : World) (h : Ls base w b mo es) (hes : es.length ≤ 1000) :
    Calls Try.prog 29 #[.pointer (some ⟨b, 0, none⟩), .string key] w fun e w' => e = .returned (.tuple #[]) ∧ Ls base w' b mo (endM es key) ∧ Fr base b w w' := by
  have hB0 := (Below.refl w.heap.size w).alloc (Nat.le_refl _) (.cells #[.string key, .int .i64 0] 54)
  have hq0 := putAll (w := w) (.cells #[.string key, .int .i64 0] 54) w.heap.size rfl
  have L0 := h.below hB0
  have HF := hide (find_any base b mo es key _ L0 hes)
  have hbl := h.lt
  have hbs := h.base_le
  have HB0 := hide hB0
  have HQ0 := hide hq0
  have HL0 := hide L0
  have HH := hide h
  clear hB0 hq0 L0
  unfold endM dropM
  cases hh : has es key with
  | false =>
    rw [hh, show at_ es key = 0 by simp [at_, hh]] at HF
    rw [pins_none hh]
    clear h hh
    simp only [Bool.false_eq_true, if_false]
    go_enter Try.func29, Try.ntmps29
    go_wp2_with fail
    refine (unhide HF).mono ?_
    rintro e w1 ⟨rfl, hB⟩
    have L1 := ((unhide HL0).below hB).drew
    have q1 : w1.drew.heap[w.heap.size]? = some (.cells #[.string key, .int .i64 0] 54) := (hB.block _ (lt_of_heap (unhide HQ0))).trans (unhide HQ0)
    obtain ⟨a, cap, a0, a1, af, own⟩ := L1.cells
    obtain ⟨a', cap', W5, hrun, d0, df, L5, F5⟩ := push_run key 0 L1 hes a1
    have c0 : w1.drew.cell? ⟨w.heap.size, 0, none⟩ = some (.string key) := by rw [cell_of q1]; rfl
    have c1 : w1.drew.cell? ⟨w.heap.size, 1, none⟩ = some (.int .i64 0) := by rw [cell_of q1]; rfl
    have a1x : (w1.alloc (.cells #[.string key, .int .i64 0] 54)).cell? ⟨b, 1, none⟩ = some (.slice a es.length cap) := (World.cell?_alloc_past _ _ _ L1.lt).trans a1
    have HL5 := hide L5
    have HF5 := hide ((Fr.of_below ((unhide HB0).trans (hB.mono (by simp))) hbs).drew.trans F5)
    clear L1 q1 own L5 F5 a0 af hB HB0 HQ0 HL0 HF
    generalize es.length = m at *
    go_wp2_with fail
    go_region_law (refine step_append_eq (by rfl) _ _ 45 (by rfl) 45 (by rfl) _ _ (by rfl) (by rfl) _ _ hrun ?_)
    all_goals
      go_wp2_with fail
      go_end0
      exact ⟨rfl, unhide HL5, unhide HF5⟩
  | true =>
    obtain ⟨hp, ha⟩ := pins_at hh
    rw [hh, ha] at HF
    clear h hh ha
    simp only [if_true]
    have hil := (List.getElem?_eq_some_iff.1 hp).1
    generalize pins es key = v at *
    generalize ix es key = i at *
    go_enter Try.func29, Try.ntmps29
    go_wp2_with fail
    refine (unhide HF).mono ?_
    rintro e w1 ⟨rfl, hB⟩
    have L1 := (unhide HL0).below hB
    have q1 : w1.heap[w.heap.size]? = some (.cells #[.string key, .int .i64 0] 54) := (hB.block _ (lt_of_heap (unhide HQ0))).trans (unhide HQ0)
    have HR := hide (remove_full base b i mo es key v w1 L1 hp hes)
    have hg0 : ∀ g cap, w1.cell? ⟨b, 1, none⟩ = some (.slice (some ⟨g, 0, none⟩) es.length cap) → g < w.heap.size := by
      intro g cap hc
      have l1 := (unhide HB0).trans (hB.mono (by simp))
      obtain ⟨a, cap', a0, a1, af, own⟩ := (unhide HH).cells
      have e1 := (World.cell?_of_block (a := ⟨b, 1, none⟩) (l1.block b hbl)).trans a1
      rw [hc] at e1
      simp only [Option.some.injEq, Value.slice.injEq] at e1
      obtain ⟨rfl, -, rfl⟩ := e1
      exact ((unhide HH).gb own).2.2.1
    have HG0 := hide hg0
    have HQ1 := hide q1
    have F1 := hide (Fr.of_below (base := base) (b := b) ((unhide HB0).trans (hB.mono (by simp))) hbs)
    have hs1 : w.heap.size < w1.heap.size := lt_of_heap q1
    clear hg0 q1 L1 hB hp HF HQ0 HL0
    go_wp2_with fail
    refine (unhide HR).mono ?_
    rintro e w2 ⟨rfl, ⟨L2, F2⟩, g, cap2, hcg, hcb, hk⟩
    have hgl := unhide HG0 g cap2 hcg
    have q2 : w2.heap[w.heap.size]? = some (.cells #[.string key, .int .i64 0] 54) := (hk _ hs1 (by omega) (by omega)).trans (unhide HQ1)
    have z0 : w2.cell? ⟨w.heap.size, 0, none⟩ = some (.string key) := by rw [cell_of q2]; rfl
    have z1 : w2.cell? ⟨w.heap.size, 1, none⟩ = some (.int .i64 0) := by rw [cell_of q2]; rfl
    have zf : ∀ j, w2.frozen? ⟨w.heap.size, j, none⟩ = false := frozen_of q2
    have HQ2 := hide q2
    have HL2 := hide L2
    have HF2 := hide ((unhide F1).trans F2)
    have hle := era_len_le es i
    have L3 : Ls base ((w2.setCell ⟨w.heap.size, 0, none⟩ (.string key)).setCell ⟨w.heap.size, 1, none⟩ (.int .i64 v)).drew b mo (era es i) := by
      have hkk : ∀ j, j ≠ w.heap.size → ((w2.setCell ⟨w.heap.size, 0, none⟩ (.string key)).setCell ⟨w.heap.size, 1, none⟩ (.int .i64 v)).drew.heap[j]? = w2.heap[j]? := fun j hj => (Below.heap_setCell _ _ _ _ hj).trans (Below.heap_setCell _ _ _ _ hj)
      obtain ⟨a, cap, l1, l2⟩ := L2.hb
      have e1 : w2.cell? ⟨b, 1, none⟩ = some (.slice a (era es i).length cap) := by rw [cell_of l1]; rfl
      rw [hcb] at e1
      simp only [Option.some.injEq, Value.slice.injEq] at e1
      obtain ⟨rfl, -, rfl⟩ := e1
      exact ⟨⟨_, _, (hkk b (by omega)).trans l1, own_keepAt l2 fun j hj => hkk j (by simp [Value.ownBlock] at hj; omega)⟩, L2.kb⟩
    have F3 : Fr base b w ((w2.setCell ⟨w.heap.size, 0, none⟩ (.string key)).setCell ⟨w.heap.size, 1, none⟩ (.int .i64 v)).drew := by
      have F := unhide HF2
      have hkk : ∀ j, j ≠ w.heap.size → ((w2.setCell ⟨w.heap.size, 0, none⟩ (.string key)).setCell ⟨w.heap.size, 1, none⟩ (.int .i64 v)).drew.heap[j]? = w2.heap[j]? := fun j hj => (Below.heap_setCell _ _ _ _ hj).trans (Below.heap_setCell _ _ _ _ hj)
      exact ⟨F.os, F.tape, F.output, by have := F.size; simp [World.setCell]; omega, fun j hj => (hkk j (by omega)).trans (F.low j hj), fun j o h1 h2 h3 => (hkk j (by have := lt_of_heap h1; omega)).trans (F.blk j o h1 h2 h3)⟩
    have x1 : ((w2.setCell ⟨w.heap.size, 0, none⟩ (.string key)).setCell ⟨w.heap.size, 1, none⟩ (.int .i64 v)).heap[w.heap.size]? = some (.cells #[.string key, .int .i64 v] 54) := by
      rw [heap_set (heap_set q2 0 _)]; simp
    have HL3 := hide L3
    have HF3 := hide F3
    have HX1 := hide x1
    clear q2 L2 F2 hk hcg F1 HR hcb L3 F3 x1
    go_wp2_with fail
    generalize (w2.setCell ⟨w.heap.size, 0, none⟩ (.string key)).setCell ⟨w.heap.size, 1, none⟩ (.int .i64 v) = w3 at *
    have L3 := unhide HL3
    have q1 : w3.drew.heap[w.heap.size]? = some (.cells #[.string key, .int .i64 v] 54) := unhide HX1
    obtain ⟨a, cap, a0, a1, af, own⟩ := L3.cells
    obtain ⟨a', cap', W5, hrun, d0, df, L5, F5⟩ := push_run key v L3 (by omega) a1
    have c0 : w3.drew.cell? ⟨w.heap.size, 0, none⟩ = some (.string key) := by rw [cell_of q1]; rfl
    have c1 : w3.drew.cell? ⟨w.heap.size, 1, none⟩ = some (.int .i64 v) := by rw [cell_of q1]; rfl
    have a1x : (w3.alloc (.cells #[.string key, .int .i64 v] 54)).cell? ⟨b, 1, none⟩ = some (.slice a (era es i).length cap) := (World.cell?_alloc_past _ _ _ L3.lt).trans a1
    have HL5 := hide L5
    have HF5 := hide ((unhide HF3).trans F5)
    clear L3 q1 own L5 F5 a0 af z0 z1 zf
    generalize (era es i).length = m at *
    go_region_law (refine step_append_eq (by rfl) _ _ 45 (by rfl) 45 (by rfl) _ _ (by rfl) (by rfl) _ _ hrun ?_)
    all_goals
      go_wp2_with fail
      go_end0
      exact ⟨rfl, unhide HL5, unhide HF5⟩
end Go.Proofs.Ytjcjibjagjiedaa
