/-
  The contract of Bind.
-/
import Derived.Test.YthmpplcaomgdoaaMList
import Derived.Deep.RegionLaw
namespace Go.Proofs.Ythmpplcaomgdoaa.Mt
open Go.RowKit
attribute [local go_sem ↓] Go.wp_at_zero Go.wp_at_succ

theorem wpList_append_eq {P : Program} {w : World} {ops : Array Oper} {rest : List Oper} {o : Oper} {a : Act} {Q : Exit → Act → World → Prop} (hgd : o.guard = none) (s x : Operand) (t : TypeId)
    (ho : o.op = .call { callee := .builtin .append, args := #[s, x], argTypes := #[t, t] }) (ty : TypeId) (hty : o.type = ty) (vs vx : Value) (hs : a.eval s = vs) (hx : a.eval x = vx) (v' : Value) (w' : World)
    (hrun : (Builtin.append_ #[t, t] ty #[vs, vx]).run P w = .ok v' w') (h : wpList P ops Q rest (a.put o.dst v') w') : wpList P ops Q (o :: rest) a w := by
  refine wpList_plain hgd fun K hK => ?_
  unfold Oper.wp execOp
  simp only [ho, resolve, invoke, builtin, Sem.run_bind, Sem.run_pure, Result.andThen_ok, List.map_toArray, List.map_cons, List.map_nil, hs, hx, hty, hrun]
  exact hK _ _ h
theorem infoL : (Try.prog.info? 59).map (fun i => (i.zero, i.size, i.bytes)) = some (some (.agg #[I 0, I 0, I 0, I 0]), 4, 32) := by kernel_rfl
theorem step_append_eq {P : Program} {w : World} {ops : Array Oper} {o : Oper} {a : Act} {K : Act → World → Prop} {Q : Exit → Act → World → Prop} {E : Prop} (hgd : o.guard = none) (s x : Operand) (t : TypeId)
    (ho : o.op = .call { callee := .builtin .append, args := #[s, x], argTypes := #[t, t] }) (ty : TypeId) (hty : o.type = ty) (vs vx : Value) (hs : a.eval s = vs) (hx : a.eval x = vx) (v' : Value) (w' : World)
    (hrun : (Builtin.append_ #[t, t] ty #[vs, vx]).run P w = .ok v' w') (h : K (a.put o.dst v') w') :
    if Region.wanted o (yielded ops a.tmps) = true then Oper.wp P o a w K Q else E := by
  have hw : Region.wanted o (yielded ops a.tmps) = true := by simp [Region.wanted, hgd]
  rw [if_pos hw]
  unfold Oper.wp execOp
  simp only [ho, resolve, invoke, builtin, Sem.run_bind, Sem.run_pure, Result.andThen_ok, List.map_toArray, List.map_cons, List.map_nil, hs, hx, hty, hrun]
  exact h
theorem cells_new4 (w : World) (p : Ld) (t : TypeId) : ∀ (j : Nat) (u : Value), (row p)[j]? = some u → (w.alloc (.cells #[I p.n, I p.top, I p.am, I p.an] t)).cell? ((⟨w.heap.size, 0, none⟩ : Addr).add j) = some u := by
  intro j u hj
  rw [Addr.add_lit, cell_of (putAll _ _ rfl)]
  simpa [row] using hj
/-- One mount more behind the others. -/
theorem push_run {base : Nat} {X : World} {b : Nat} {rt md : Int} {es : Ents} (p : Ld) (L : Ls base X b rt md es) (hl : es.length ≤ 1000) {a : Option Addr} {m cap : Nat} (a1 : X.cell? ⟨b, 2, none⟩ = some (.slice a m cap)) :
    ∃ (a' : Option Addr) (cap' : Nat) (W5 : World), (Builtin.append_ #[55, 55] 55 #[.slice a m cap, .slice (some ⟨X.heap.size, 0, none⟩) 1 1]).run Try.prog (X.alloc (.cells #[I p.n, I p.top, I p.am, I p.an] 59)) = .ok (.slice a' (m + 1) cap') W5 ∧
      W5.cell? ⟨b, 2, none⟩ = some (.slice a m cap) ∧ W5.frozen? ⟨b, 2, none⟩ = false ∧ Ls base (W5.setCell ⟨b, 2, none⟩ (.slice a' (m + 1) cap')) b rt md (es ++ [p]) ∧ Fm base b X (W5.setCell ⟨b, 2, none⟩ (.slice a' (m + 1) cap')) := by
  obtain ⟨i0, hi, hz0, hz1, hz2⟩ := info_parts infoL
  obtain ⟨a2, cap2, h1, own⟩ := L.hb
  have e1 : X.cell? ⟨b, 2, none⟩ = some (.slice a2 es.length cap2) := by rw [cell_of h1]; rfl
  rw [a1] at e1
  simp only [Option.some.injEq, Value.slice.injEq] at e1
  obtain ⟨rfl, rfl, rfl⟩ := e1
  have own5 := own_keep (W' := X.alloc (.cells #[I p.n, I p.top, I p.am, I p.an] 59)) own (fun k cur hc => Below.heap_alloc X _ _ (lt_of_heap hc))
  obtain ⟨v', W5, hrun, own7, hgr, -, -⟩ := run_append_own_at (P := Try.prog) (X.alloc (.cells #[I p.n, I p.top, I p.am, I p.an] 59)) base 55 55 59 i0 _ 4 32 Try.underlying55 hi hz0 hz1 hz2 rfl (by decide) (.slice a es.length cap) _ _ own5 ⟨X.heap.size, 0, none⟩ 1 1 (row p) rfl (cells_new4 X p 59) (by intro u hu; simp [row] at hu; rcases hu with rfl | rfl | rfl | rfl <;> rfl) (by unfold maxLen; omega) (by omega) (by simp; have := L.base_le; omega)
  obtain ⟨a', cap', rfl⟩ := own_form own7
  have hbA : (X.alloc (.cells #[I p.n, I p.top, I p.am, I p.an] 59)).heap[b]? = some (.cells #[I rt, I md, .slice a es.length cap] 57) := (Below.heap_alloc _ _ _ L.lt).trans h1
  have hb5 : W5.heap[b]? = some (.cells #[I rt, I md, .slice a es.length cap] 57) := (hgr.block b (lt_of_heap hbA) (own_ne own5 hbA (by simp))).trans hbA
  have hself : ∀ j, j ≠ b → (W5.setCell ⟨b, 2, none⟩ (.slice a' (es.length + 1) cap')).heap[j]? = W5.heap[j]? := fun j hj => Below.heap_setCell _ _ _ _ hj
  refine ⟨a', cap', W5, hrun, by rw [cell_of hb5]; rfl, frozen_of hb5 2, ⟨⟨a', cap', ?_, ?_⟩, L.kb⟩, ?_⟩
  · rw [heap_set hb5]; simp
  · rw [List.length_append, rowsOf_append]
    refine own_keep own7 fun j cur hc => hself j ?_
    rintro rfl
    rw [hb5] at hc
    simp at hc
  · have b1 : Below base X (X.alloc (.cells #[I p.n, I p.top, I p.am, I p.an] 59)) := ((Below.refl _ X).alloc (Nat.le_refl _) _).mono L.base_le
    have b2 := below_grown b1 own5 hgr (by simp; have := L.base_le; omega)
    refine ⟨b2.os, b2.tape, b2.output, by have := b2.size; simp [World.setCell]; omega, fun j hj => (hself j (by have := L.kb; omega)).trans (b2.block j hj), fun j o g1 g2 g3 => ?_⟩
    have hkA : (X.alloc (.cells #[I p.n, I p.top, I p.am, I p.an] 59)).heap[j]? = some o := (Below.heap_alloc _ _ _ (lt_of_heap g1)).trans g1
    rw [hself j g2, hgr.block j (lt_of_heap hkA) (own_ne own5 hkA g3), hkA]
/-- With which number Bind refuses (0: it is done). -/
def bindE (es : Ents) (am an : Int) : Int := if rootIs es am = false then 1 else if any es (isAt am an) = true then 15 else if 8 ≤ 1 + (es.length : Int) then 13 else 0
theorem bind_no (base b : Nat) (rt md am an nd k : Int) (es : Ents) (w : World) (hG : Ls base w b rt md es) (hes : es.length ≤ 100) (hk : bindE es am an = k) (h0 : k ≠ 0) :
    Calls Try.prog 10 #[.pointer (some ⟨b, 0, none⟩), pv am an, I nd] w fun e w' => e = .returned (.tuple #[I 0, I k]) ∧ Below w.heap.size w w' := by
  obtain ⟨V, hV, hs, hx, hb⟩ : ∃ V, w.alloc (.cells #[I am, I an] 29) = V ∧ V.heap.size = w.heap.size + 1 ∧ V.heap[w.heap.size]? = some (.cells #[I am, I an] 29) ∧ Below w.heap.size w V := ⟨_, rfl, by simp, putAll _ _ rfl, below_alloc _ _⟩
  obtain ⟨v0, v1⟩ := cells2 hx
  have H1 := hide (root_any base b rt md am es V (hG.below hb) (by omega))
  have H2 := hide (fun W (hB : Below V.heap.size V W) => lyingAt_any base b rt md am an es W ((hG.below hb).below hB) (by omega))
  have H3 := hide (fun W (hB : Below V.heap.size V W) => ((hG.below hb).below hB).cells)
  unfold bindE at hk
  generalize rootTop rt es am = x1 at *
  generalize rootIs es am = y1 at *
  generalize fst es (isAt am an) = x2 at *
  generalize any es (isAt am an) = y2 at *
  have HB := hide hb
  clear hG hb
  unfold pv
  go_enter Try.func10, Try.ntmps10
  go_wp2_with fail
  refine (unhide H1).mono ?_
  rintro e w1 ⟨rfl, hB⟩
  have q := hB.block _ (by omega : w.heap.size < V.heap.size)
  rw [hx] at q
  obtain ⟨u0, u1⟩ := cells2 q
  clear v0 v1 q hx
  cases y1 with
  | false =>
    have hE := hide ((unhide HB).trans (hB.mono (by omega)))
    obtain rfl : 1 = k := by simpa using hk
    clear hB HB H1 H2 H3 hV h0 hk
    go_wp2_with fail
    go_ret2
    exact ⟨rfl, unhide hE⟩
  | true =>
    have H2' := hide (unhide H2 w1 hB)
    have hB1 := hide hB
    clear hB H1 H2 hV
    go_wp2_with fail
    refine (unhide H2').mono ?_
    rintro e w2 ⟨rfl, hB2⟩
    have hB3 := (unhide hB1).trans (hB2.mono (unhide hB1).size)
    have hE0 := (unhide HB).trans (hB3.mono (by omega))
    have hE := hide (hE0.alloc hE0.size (.cells #[I x2.n, I x2.top, I x2.am, I x2.an] 59))
    obtain ⟨a, cap, -, -, c2, -, -⟩ := unhide H3 w2 hB3
    have c2' := cell_alloc c2 (.cells #[I x2.n, I x2.top, I x2.am, I x2.an] 59)
    clear hB2 H2' H3 HB hB1 u0 u1 hE0 c2 hB3
    unfold lv
    cases y2 with
    | true =>
      obtain rfl : 15 = k := by simpa using hk
      clear h0 hk
      go_wp2_with fail
      go_ret2
      exact ⟨rfl, unhide hE⟩
    | false =>
      have hl : 8 ≤ 1 + (es.length : Int) := by
        refine Decidable.byContradiction fun h => h0 ?_
        simp [h] at hk
        exact hk.symm
      obtain rfl : 13 = k := by simpa [hl] using hk
      clear h0 hk
      have hl2 : (es.length : Int) < 1000 := by omega
      generalize es.length = m at *
      go_wp2_with fail
      go_ret2
      exact ⟨rfl, unhide hE⟩
set_option maxRecDepth 100000 in
set_option maxHeartbeats 1000000 in
theorem bind_yes (base b : Nat) (rt md am an nd : Int) (es : Ents) (w : World) (hG : Ls base w b rt md es) (hes : es.length ≤ 100) (hmd : -1000000 < md ∧ md < 1000000) (hk : bindE es am an = 0) :
    Calls Try.prog 10 #[.pointer (some ⟨b, 0, none⟩), pv am an, I nd] w fun e w' => e = .returned (.tuple #[I (md + 1), I 0]) ∧ Ls base w' b rt (md + 1) (es ++ [⟨md + 1, nd, am, an⟩]) ∧ Fm base b w w' := by
  obtain ⟨V, hV, hs, hx, hb⟩ : ∃ V, w.alloc (.cells #[I am, I an] 29) = V ∧ V.heap.size = w.heap.size + 1 ∧ V.heap[w.heap.size]? = some (.cells #[I am, I an] 29) ∧ Below w.heap.size w V := ⟨_, rfl, by simp, putAll _ _ rfl, below_alloc _ _⟩
  obtain ⟨v0, v1⟩ := cells2 hx
  have hbase := hG.base_le
  have hbl := hG.lt
  have H1 := hide (root_any base b rt md am es V (hG.below hb) (by omega))
  have H2 := hide (fun W (hB : Below V.heap.size V W) => lyingAt_any base b rt md am an es W ((hG.below hb).below hB) (by omega))
  have H3 := hide (fun W (hB : Below V.heap.size V W) => ((hG.below hb).below hB))
  unfold bindE at hk
  generalize rootTop rt es am = x1 at *
  generalize rootIs es am = y1 at *
  generalize fst es (isAt am an) = x2 at *
  generalize any es (isAt am an) = y2 at *
  have hl : ¬ 8 ≤ 1 + (es.length : Int) := by
    intro h
    cases y1 <;> cases y2 <;> simp [h] at hk
  obtain rfl : y1 = true := by cases y1 <;> simp_all
  obtain rfl : y2 = false := by cases y2 <;> simp_all
  clear hk
  have HB := hide hb
  clear hG hb
  unfold pv
  go_enter Try.func10, Try.ntmps10
  go_wp2_with fail
  refine (unhide H1).mono ?_
  rintro e w1 ⟨rfl, hB⟩
  have q := hB.block _ (by omega : w.heap.size < V.heap.size)
  rw [hx] at q
  obtain ⟨u0, u1⟩ := cells2 q
  clear v0 v1 hx
  have H2' := hide (unhide H2 w1 hB)
  have hB1 := hide hB
  clear hB H1 H2 hV
  go_wp2_with fail
  refine (unhide H2').mono ?_
  rintro e w2 ⟨rfl, hB2⟩
  have hB3 := (unhide hB1).trans (hB2.mono (unhide hB1).size)
  have hE0 := (unhide HB).trans (hB3.mono (by omega))
  have hE := hide (hE0.alloc hE0.size (.cells #[I x2.n, I x2.top, I x2.am, I x2.an] 59))
  have G3 := (unhide H3 w2 hB3).alloc (.cells #[I x2.n, I x2.top, I x2.am, I x2.an] 59)
  have q2 := (Below.heap_alloc w2 (.cells #[I x2.n, I x2.top, I x2.am, I x2.an] 59) _ (by have := hB3.size; omega)).trans ((hB2.block _ (lt_of_heap q)).trans q)
  clear hB2 H2' H3 HB hB1 u0 u1 hE0 hB3 q
  obtain ⟨W2, hW2⟩ : ∃ W2, w2.alloc (.cells #[I x2.n, I x2.top, I x2.am, I x2.an] 59) = W2 := ⟨_, rfl⟩
  rw [hW2] at hE G3 q2
  obtain ⟨a, cap, c0, c1, c2, cf, own⟩ := G3.cells
  have cf1 := cf 1
  clear own cf
  obtain ⟨X, hX⟩ : ∃ X, W2.setCell ⟨b, 1, none⟩ (I (md + 1)) = X := ⟨_, rfl⟩
  have LX := G3.setMade (md + 1)
  have qX : (W2.setCell ⟨b, 1, none⟩ (I (md + 1))).heap[w.heap.size]? = _ := (Below.heap_setCell _ _ _ _ (by have := hbl; simp; omega)).trans q2
  have FX : Fm base b w (W2.setCell ⟨b, 1, none⟩ (I (md + 1))) := (Fm.of_below (unhide hE) hbase).set (p := ⟨b, 1, none⟩) rfl G3.kb _
  rw [hX] at LX qX FX
  obtain ⟨a', cap', c0', c1', c2', cf', own'⟩ := LX.cells
  obtain ⟨a5, cap5, W5, hrun, d0, df, L5, F5⟩ := push_run ⟨md + 1, nd, am, an⟩ LX.drew (by omega) (show X.drew.cell? _ = _ from c2')
  obtain ⟨r0, r1⟩ := cells2 qX
  have r0d : X.drew.cell? ⟨w.heap.size, 0, none⟩ = some (I am) := r0
  have r1d : X.drew.cell? ⟨w.heap.size, 1, none⟩ = some (I an) := r1
  have c1d : X.drew.cell? ⟨b, 1, none⟩ = some (I (md + 1)) := c1'
  have c2d : X.drew.cell? ⟨b, 2, none⟩ = _ := c2'
  have z1 : (W5.setCell ⟨b, 2, none⟩ (.slice a5 (es.length + 1) cap5)).cell? ⟨b, 1, none⟩ = some (I (md + 1)) := by
    obtain ⟨_, _, _, h, _⟩ := L5.cells
    exact h
  have c2a := cell_alloc c2' (.cells #[I (md + 1), I nd, I am, I an] 59)
  have HL5 := hide L5
  have HF5 := hide (FX.drew.trans F5)
  clear G3 LX qX FX q2 own' L5 F5 hE r0 r1 cf' c0' c1' c2' 
  have hl2 : (es.length : Int) < 1000 := by omega
  generalize es.length = m at *
  unfold lv
  go_wp2_with fail
  go_region_law (refine step_append_eq (by rfl) _ _ 55 (by rfl) 55 (by rfl) _ _ (by rfl) (by rfl) _ _ hrun ?_)
  all_goals
    clear hrun c2a c2d c1d r0d r1d c0 c1 c2
    go_wp2_with fail
    go_ret2
    exact ⟨rfl, unhide HL5, unhide HF5⟩
end Go.Proofs.Ythmpplcaomgdoaa.Mt
