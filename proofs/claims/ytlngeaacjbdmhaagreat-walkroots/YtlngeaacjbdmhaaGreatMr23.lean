/-
  The contract of Bind.
-/
import Derived.Test.YtlngeaacjbdmhaaGreatMr22
import Derived.Deep.RegionLaw
import Derived.Lib.SliceRun
namespace Go.Proofs.YtlngeaacjbdmhaaGreat.Mt
open Go.RowKit
attribute [local go_sem ↓] Go.wp_at_zero Go.wp_at_succ
theorem wpList_append_eq {P : Program} {w : World} {ops : Array Oper} {rest : List Oper} {o : Oper} {a : Act} {Q : Exit → Act → World → Prop} (hgd : o.guard = none) (s x : Operand) (t : TypeId)
    (ho : o.op = .call { callee := .builtin .append, args := #[s, x], argTypes := #[t, t] }) (ty : TypeId) (hty : o.type = ty) (vs vx : Value) (hs : a.eval s = vs) (hx : a.eval x = vx) (v' : Value) (w' : World)
    (hrun : (Builtin.append_ #[t, t] ty #[vs, vx]).run P w = .ok v' w') (h : wpList P ops Q rest (a.put o.dst v') w') : wpList P ops Q (o :: rest) a w := by
  refine wpList_plain hgd fun K hK => ?_
  unfold Oper.wp execOp
  simp only [ho, resolve, invoke, builtin, Sem.run_bind, Sem.run_pure, Result.andThen_ok, List.map_toArray, List.map_cons, List.map_nil, hs, hx, hty, hrun]
  exact hK _ _ h
theorem infoL : (Tryz.prog.info? 182).map (fun i => (i.zero, i.size, i.bytes)) = some (some (.agg #[I 0, I 0, I 0, I 0]), 4, 32) := by kernel_rfl
theorem step_append_eq {P : Program} {w : World} {ops : Array Oper} {o : Oper} {a : Act} {K : Act → World → Prop} {Q : Exit → Act → World → Prop} {E : Prop} (hgd : o.guard = none) (s x : Operand) (t : TypeId)
    (ho : o.op = .call { callee := .builtin .append, args := #[s, x], argTypes := #[t, t] }) (ty : TypeId) (hty : o.type = ty) (vs vx : Value) (hs : a.eval s = vs) (hx : a.eval x = vx) (v' : Value) (w' : World)
    (hrun : (Builtin.append_ #[t, t] ty #[vs, vx]).run P w = .ok v' w') (h : K (a.put o.dst v') w') :
    if Region.wanted o (yielded ops a.tmps) = true then Oper.wp P o a w K Q else E := by
  have hw : Region.wanted o (yielded ops a.tmps) = true := by simp [Region.wanted, hgd]
  rw [if_pos hw]
  unfold Oper.wp execOp
  simp only [ho, resolve, invoke, builtin, Sem.run_bind, Sem.run_pure, Result.andThen_ok, List.map_toArray, List.map_cons, List.map_nil, hs, hx, hty, hrun]
  exact h
theorem cells_new4 (w : World) (p : Ld) (t : TypeId) : ∀ (j : Nat) (u : Value), (row p)[j]? = some u → (w.alloc (.cells #[I p.n, I p.top, I p.am, I p.an] t)).cell? ((⟨w.heap.size, 0, none⟩ : Addr).add j) = some u := by
  intro j u hj
  rw [Addr.add_lit, cell_of (putAll _ _ rfl)]
  simpa [row] using hj
/-- One mount more behind the others. -/
theorem push_run {base : Nat} {X : World} {b : Nat} {rt md : Int} {es : Ents} (p : Ld) (L : Ls base X b rt md es) (hl : es.length ≤ 1000) {a : Option Addr} {m cap : Nat} (a1 : X.cell? ⟨b, 2, none⟩ = some (.slice a m cap)) :
    ∃ (a' : Option Addr) (cap' : Nat) (W5 : World), (Builtin.append_ #[219, 219] 219 #[.slice a m cap, .slice (some ⟨X.heap.size, 0, none⟩) 1 1]).run Tryz.prog (X.alloc (.cells #[I p.n, I p.top, I p.am, I p.an] 182)) = .ok (.slice a' (m + 1) cap') W5 ∧
      W5.cell? ⟨b, 2, none⟩ = some (.slice a m cap) ∧ W5.frozen? ⟨b, 2, none⟩ = false ∧ Ls base (W5.setCell ⟨b, 2, none⟩ (.slice a' (m + 1) cap')) b rt md (es ++ [p]) ∧ Fm base b X (W5.setCell ⟨b, 2, none⟩ (.slice a' (m + 1) cap')) := by
  obtain ⟨i0, hi, hz0, hz1, hz2⟩ := info_parts infoL
  obtain ⟨a2, cap2, h1, own⟩ := L.hb
  have e1 : X.cell? ⟨b, 2, none⟩ = some (.slice a2 es.length cap2) := by rw [cell_of h1]; rfl
  rw [a1] at e1
  simp only [Option.some.injEq, Value.slice.injEq] at e1
  obtain ⟨rfl, rfl, rfl⟩ := e1
  have own5 := own_keep (W' := X.alloc (.cells #[I p.n, I p.top, I p.am, I p.an] 182)) own (fun k cur hc => Below.heap_alloc X _ _ (lt_of_heap hc))
  obtain ⟨v', W5, hrun, own7, hgr, -, -⟩ := run_append_own_at (P := Tryz.prog) (X.alloc (.cells #[I p.n, I p.top, I p.am, I p.an] 182)) base 219 219 182 i0 _ 4 32 Tryz.underlying219 hi hz0 hz1 hz2 rfl (by decide) (.slice a es.length cap) _ _ own5 ⟨X.heap.size, 0, none⟩ 1 1 (row p) rfl (cells_new4 X p 182) (by intro u hu; simp [row] at hu; rcases hu with rfl | rfl | rfl | rfl <;> rfl) (by unfold maxLen; omega) (by omega) (by simp; have := L.base_le; omega)
  obtain ⟨a', cap', rfl⟩ := own_form own7
  have hbA : (X.alloc (.cells #[I p.n, I p.top, I p.am, I p.an] 182)).heap[b]? = some (.cells #[I rt, I md, .slice a es.length cap] 221) := (Below.heap_alloc _ _ _ L.lt).trans h1
  have hb5 : W5.heap[b]? = some (.cells #[I rt, I md, .slice a es.length cap] 221) := (hgr.block b (lt_of_heap hbA) (own_ne own5 hbA (by simp))).trans hbA
  have hself : ∀ j, j ≠ b → (W5.setCell ⟨b, 2, none⟩ (.slice a' (es.length + 1) cap')).heap[j]? = W5.heap[j]? := fun j hj => Below.heap_setCell _ _ _ _ hj
  refine ⟨a', cap', W5, hrun, by rw [cell_of hb5]; rfl, frozen_of hb5 2, ⟨⟨a', cap', ?_, ?_⟩, L.kb⟩, ?_⟩
  · rw [heap_set hb5]; simp
  · rw [List.length_append, rowsOf_append]
    refine own_keep own7 fun j cur hc => hself j ?_
    rintro rfl
    rw [hb5] at hc
    simp at hc
  · have b1 : Below base X (X.alloc (.cells #[I p.n, I p.top, I p.am, I p.an] 182)) := ((Below.refl _ X).alloc (Nat.le_refl _) _).mono L.base_le
    have b2 := below_grown b1 own5 hgr (by simp; have := L.base_le; omega)
    refine ⟨b2.os, b2.tape, b2.output, by have := b2.size; simp [World.setCell]; omega, fun j hj => (hself j (by have := L.kb; omega)).trans (b2.block j hj), fun j o g1 g2 g3 => ?_⟩
    have hkA : (X.alloc (.cells #[I p.n, I p.top, I p.am, I p.an] 182)).heap[j]? = some o := (Below.heap_alloc _ _ _ (lt_of_heap g1)).trans g1
    rw [hself j g2, hgr.block j (lt_of_heap hkA) (own_ne own5 hkA g3), hkA]
/-- With which number Bind refuses (0: it is done). -/
def bindE (es : Ents) (am an : Int) : Int := if rootIs es am = false then 1 else if any es (isAt am an) = true then 15 else if 8 ≤ 1 + (es.length : Int) then 13 else 0
theorem bind_no (base b : Nat) (rt md am an nd k : Int) (es : Ents) (w : World) (hG : Ls base w b rt md es) (hes : es.length ≤ 100) (hk : bindE es am an = k) (h0 : k ≠ 0) :
    Calls Tryz.prog 148 #[.pointer (some ⟨b, 0, none⟩), pv am an, I nd] w fun e w' => e = .returned (.tuple #[I 0, I k]) ∧ Below w.heap.size w w' := by
  obtain ⟨V, hV, hs, hx, hb⟩ : ∃ V, w.alloc (.cells #[I am, I an] 50) = V ∧ V.heap.size = w.heap.size + 1 ∧ V.heap[w.heap.size]? = some (.cells #[I am, I an] 50) ∧ Below w.heap.size w V := ⟨_, rfl, by simp, putAll _ _ rfl, below_alloc _ _⟩
  obtain ⟨v0, v1⟩ := cells2 hx
  have H1 := hide (root_any base b rt md am es V (hG.below hb) (by omega))
  have H2 := hide (fun W (hB : Below V.heap.size V W) => lyingAt_any base b rt md am an es W ((hG.below hb).below hB) (by omega))
  have H3 := hide (fun W (hB : Below V.heap.size V W) => ((hG.below hb).below hB).cells)
  unfold bindE at hk
  generalize rootTop rt es am = x1 at *
  generalize rootIs es am = y1 at *
  generalize fst es (isAt am an) = x2 at *
  generalize any es (isAt am an) = y2 at *
  have HB := hide hb
  clear hG hb
  unfold pv
  go_enter Tryz.func148, Tryz.ntmps148
  go_wp2_with fail
  refine (unhide H1).mono ?_
  rintro e w1 ⟨rfl, hB⟩
  have q := hB.block _ (by omega : w.heap.size < V.heap.size)
  rw [hx] at q
  obtain ⟨u0, u1⟩ := cells2 q
  clear v0 v1 q hx
  cases y1 with
  | false =>
    have hE := hide ((unhide HB).trans (hB.mono (by omega)))
    obtain rfl : 1 = k := by simpa using hk
    clear hB HB H1 H2 H3 hV h0 hk
    go_wp2_with fail
    go_ret2
    exact ⟨rfl, unhide hE⟩
  | true =>
    have H2' := hide (unhide H2 w1 hB)
    have hB1 := hide hB
    clear hB H1 H2 hV
    go_wp2_with fail
    refine (unhide H2').mono ?_
    rintro e w2 ⟨rfl, hB2⟩
    have hB3 := (unhide hB1).trans (hB2.mono (unhide hB1).size)
    have hE0 := (unhide HB).trans (hB3.mono (by omega))
    have hE := hide (hE0.alloc hE0.size (.cells #[I x2.n, I x2.top, I x2.am, I x2.an] 182))
    obtain ⟨a, cap, -, -, c2, -, -⟩ := unhide H3 w2 hB3
    have c2' := cell_alloc c2 (.cells #[I x2.n, I x2.top, I x2.am, I x2.an] 182)
    clear hB2 H2' H3 HB hB1 u0 u1 hE0 c2 hB3
    unfold lv
    cases y2 with
    | true =>
      obtain rfl : 15 = k := by simpa using hk
      clear h0 hk
      go_wp2_with fail
      go_ret2
      exact ⟨rfl, unhide hE⟩
    | false =>
      have hl : 8 ≤ 1 + (es.length : Int) := by
        refine Decidable.byContradiction fun h => h0 ?_
        simp [h] at hk
        exact hk.symm
      obtain rfl : 13 = k := by simpa [hl] using hk
      clear h0 hk
      have hl2 : (es.length : Int) < 1000 := by omega
      generalize es.length = m at *
      go_wp2_with fail
      go_ret2
      exact ⟨rfl, unhide hE⟩
set_option maxRecDepth 100000 in
set_option maxHeartbeats 1000000 in
theorem bind_yes (base b : Nat) (rt md am an nd : Int) (es : Ents) (w : World) (hG : Ls base w b rt md es) (hes : es.length ≤ 100) (hmd : -1000000 < md ∧ md < 1000000) (hk : bindE es am an = 0) :
    Calls Tryz.prog 148 #[.pointer (some ⟨b, 0, none⟩), pv am an, I nd] w fun e w' => e = .returned (.tuple #[I (md + 1), I 0]) ∧ Ls base w' b rt (md + 1) (es ++ [⟨md + 1, nd, am, an⟩]) ∧ Fm base b w w' := by
  obtain ⟨V, hV, hs, hx, hb⟩ : ∃ V, w.alloc (.cells #[I am, I an] 50) = V ∧ V.heap.size = w.heap.size + 1 ∧ V.heap[w.heap.size]? = some (.cells #[I am, I an] 50) ∧ Below w.heap.size w V := ⟨_, rfl, by simp, putAll _ _ rfl, below_alloc _ _⟩
  obtain ⟨v0, v1⟩ := cells2 hx
  have hbase := hG.base_le
  have hbl := hG.lt
  have H1 := hide (root_any base b rt md am es V (hG.below hb) (by omega))
  have H2 := hide (fun W (hB : Below V.heap.size V W) => lyingAt_any base b rt md am an es W ((hG.below hb).below hB) (by omega))
  have H3 := hide (fun W (hB : Below V.heap.size V W) => ((hG.below hb).below hB))
  unfold bindE at hk
  generalize rootTop rt es am = x1 at *
  generalize rootIs es am = y1 at *
  generalize fst es (isAt am an) = x2 at *
  generalize any es (isAt am an) = y2 at *
  have hl : ¬ 8 ≤ 1 + (es.length : Int) := by
    intro h
    cases y1 <;> cases y2 <;> simp [h] at hk
  obtain rfl : y1 = true := by cases y1 <;> simp_all
  obtain rfl : y2 = false := by cases y2 <;> simp_all
  clear hk
  have HB := hide hb
  clear hG hb
  unfold pv
  go_enter Tryz.func148, Tryz.ntmps148
  go_wp2_with fail
  refine (unhide H1).mono ?_
  rintro e w1 ⟨rfl, hB⟩
  have q := hB.block _ (by omega : w.heap.size < V.heap.size)
  rw [hx] at q
  obtain ⟨u0, u1⟩ := cells2 q
  clear v0 v1 hx
  have H2' := hide (unhide H2 w1 hB)
  have hB1 := hide hB
  clear hB H1 H2 hV
  go_wp2_with fail
  refine (unhide H2').mono ?_
  rintro e w2 ⟨rfl, hB2⟩
  have hB3 := (unhide hB1).trans (hB2.mono (unhide hB1).size)
  have hE0 := (unhide HB).trans (hB3.mono (by omega))
  have hE := hide (hE0.alloc hE0.size (.cells #[I x2.n, I x2.top, I x2.am, I x2.an] 182))
  have G3 := (unhide H3 w2 hB3).alloc (.cells #[I x2.n, I x2.top, I x2.am, I x2.an] 182)
  have q2 := (Below.heap_alloc w2 (.cells #[I x2.n, I x2.top, I x2.am, I x2.an] 182) _ (by have := hB3.size; omega)).trans ((hB2.block _ (lt_of_heap q)).trans q)
  clear hB2 H2' H3 HB hB1 u0 u1 hE0 hB3 q
  obtain ⟨W2, hW2⟩ : ∃ W2, w2.alloc (.cells #[I x2.n, I x2.top, I x2.am, I x2.an] 182) = W2 := ⟨_, rfl⟩
  rw [hW2] at hE G3 q2
  obtain ⟨a, cap, c0, c1, c2, cf, own⟩ := G3.cells
  have cf1 := cf 1
  clear own cf
  obtain ⟨X, hX⟩ : ∃ X, W2.setCell ⟨b, 1, none⟩ (I (md + 1)) = X := ⟨_, rfl⟩
  have LX := G3.setMade (md + 1)
  have qX : (W2.setCell ⟨b, 1, none⟩ (I (md + 1))).heap[w.heap.size]? = _ := (Below.heap_setCell _ _ _ _ (by have := hbl; simp; omega)).trans q2
  have FX : Fm base b w (W2.setCell ⟨b, 1, none⟩ (I (md + 1))) := (Fm.of_below (unhide hE) hbase).set (p := ⟨b, 1, none⟩) rfl G3.kb _
  rw [hX] at LX qX FX
  obtain ⟨a', cap', c0', c1', c2', cf', own'⟩ := LX.cells
  obtain ⟨a5, cap5, W5, hrun, d0, df, L5, F5⟩ := push_run ⟨md + 1, nd, am, an⟩ LX.drew (by omega) (show X.drew.cell? _ = _ from c2')
  obtain ⟨r0, r1⟩ := cells2 qX
  have r0d : X.drew.cell? ⟨w.heap.size, 0, none⟩ = some (I am) := r0
  have r1d : X.drew.cell? ⟨w.heap.size, 1, none⟩ = some (I an) := r1
  have c1d : X.drew.cell? ⟨b, 1, none⟩ = some (I (md + 1)) := c1'
  have c2d : X.drew.cell? ⟨b, 2, none⟩ = _ := c2'
  have z1 : (W5.setCell ⟨b, 2, none⟩ (.slice a5 (es.length + 1) cap5)).cell? ⟨b, 1, none⟩ = some (I (md + 1)) := by
    obtain ⟨_, _, _, h, _⟩ := L5.cells
    exact h
  have c2a := cell_alloc c2' (.cells #[I (md + 1), I nd, I am, I an] 182)
  have HL5 := hide L5
  have HF5 := hide (FX.drew.trans F5)
  clear G3 LX qX FX q2 own' L5 F5 hE r0 r1 cf' c0' c1' c2' 
  have hl2 : (es.length : Int) < 1000 := by omega
  generalize es.length = m at *
  unfold lv
  go_wp2_with fail
  go_region_law (refine step_append_eq (by rfl) _ _ 219 (by rfl) 219 (by rfl) _ _ (by rfl) (by rfl) _ _ hrun ?_)
  all_goals
    clear hrun c2a c2d c1d r0d r1d c0 c1 c2
    go_wp2_with fail
    go_ret2
    exact ⟨rfl, unhide HL5, unhide HF5⟩
end Go.Proofs.YtlngeaacjbdmhaaGreat.Mt

namespace Go.Proofs.YtlngeaacjbdmhaaGreat.Mt
open Go.RowKit
attribute [local go_sem ↓] Go.wp_at_zero Go.wp_at_succ
set_option maxRecDepth 100000 in
set_option maxHeartbeats 1000000 in
theorem idx_any (base g n cap : Nat) (es : Ents) (F x : Nat) (P : Ld → Bool) (w : World) (hn : es.length = n) (hown : w.ownsRow base 182 4 (.slice (some ⟨g, 0, none⟩) n cap) n (rowsOf row es)) (hl : n ≤ 1000) (i : Nat) (hi : es.findIdx P = i) (hin : i < n)
    (hE : ∀ args w, (callFunc F args).run Tryz.prog w = .ok (.enter F args) w)
    (hF : ∀ p W, Below w.heap.size w W → Calls Tryz.prog F #[lv p, .pointer (some ⟨x, 0, none⟩)] W fun e W' => e = .returned (.bool (P p)) ∧ Below W.heap.size W W') :
    Calls Tryz.prog 227 #[.slice (some ⟨g, 0, none⟩) n cap, .func (.func F) #[] #[.pointer (some ⟨x, 0, none⟩)]] w fun e w' => e = .returned (I (i : Int)) ∧ Below w.heap.size w w' := by
  have HF := hide hF
  have HO := hide hown
  have HI := hide hi
  have Hn := hide hn
  clear hF hown hi hn
  go_enter Tryz.func227, Tryz.ntmps227
  go_wp2_with fail
  go_loopw [8] (fun v wr => ∃ k : Nat, v = I k ∧ k ≤ i ∧ Below w.heap.size w wr) (fun v _ => n - (intOf v).toNat)
  case atStart => exact ⟨0, rfl, Nat.zero_le _, Below.refl _ _⟩
  case round =>
    obtain ⟨k, rfl, hk, hb⟩ := hrel
    have hkn : k < es.length := by have := unhide Hn; omega
    obtain ⟨p, hp⟩ : ∃ p, es[k]? = some p := ⟨_, List.getElem?_eq_getElem hkn⟩
    obtain ⟨g', eg, c0, c1, c2, c3, _, hgl⟩ := own_at (unhide HO) hp (unhide Hn)
    simp only [Option.some.injEq, Addr.mk.injEq, and_true] at eg
    subst eg
    have hg := hb.block g hgl
    have d0 := (World.cell?_of_block (a := ⟨g, k * 4, none⟩) hg).trans c0
    have d1 := (World.cell?_of_block (a := ⟨g, k * 4 + 1, none⟩) hg).trans c1
    have d2 := (World.cell?_of_block (a := ⟨g, k * 4 + 2, none⟩) hg).trans c2
    have d3 := (World.cell?_of_block (a := ⟨g, k * 4 + 3, none⟩) hg).trans c3
    have j1 : (k : Int) < (n : Int) := by omega
    have j0 : (0 : Int) ≤ (k : Int) := by omega
    have HC := hide (unhide HF p wr hb)
    have hPk : Hid (P p = decide (k = i)) := by
      have hi := unhide HI
      have he := (List.getElem?_eq_some_iff.1 hp).2
      by_cases e : k = i
      · subst e
        rw [decide_eq_true rfl, ← he]
        subst hi
        exact List.findIdx_getElem (w := hkn)
      · rw [decide_eq_false e, ← he]
        exact List.not_of_lt_findIdx (xs := es) (p := P) (i := k) (by omega)
    have HB := hide hb
    clear c0 c1 c2 c3 hg hb hp hkn HF HO HI Hn hgl
    by_cases e : k = i
    · subst e
      rw [show P p = true by rw [unhide hPk]; simp] at HC
      clear hPk
      go_wp2_with fail
      refine (unhide HC).mono ?_
      rintro e w1 ⟨rfl, hB⟩
      have HE := hide ((unhide HB).trans (hB.mono (unhide HB).size))
      clear hB HC HB d0 d1 d2 d3
      go_wp2_with fail
      go_ret
      exact ⟨rfl, unhide HE⟩
    · rw [show P p = false by rw [unhide hPk]; simp [e]] at HC
      clear hPk
      go_wp2_with fail
      refine (unhide HC).mono ?_
      rintro e w1 ⟨rfl, hB⟩
      have HE := hide ((unhide HB).trans (hB.mono (unhide HB).size))
      clear hB HC HB d0 d1 d2 d3
      go_wp2_with fail
      go_roundw
      case rel => exact ⟨k + 1, by go_num, by omega, unhide HE⟩
      case measure => simp [intOf]; omega
/-- One of the mounts of a row is written over. -/
theorem own_set4 {base g n cap : Nat} {es : Ents} {W : World} {i : Nat} {p q : Ld} (own : W.ownsRow base 182 4 (.slice (some ⟨g, 0, none⟩) n cap) n (rowsOf row es)) (hn : es.length = n) (hi : es[i]? = some q) :
    ∃ X1 X2 X3 X4 : World, (W.setCell ⟨g, i * 4, none⟩ (I p.n) = X1 ∧ X1.setCell ⟨g, i * 4 + 1, none⟩ (I p.top) = X2 ∧ X2.setCell ⟨g, i * 4 + 2, none⟩ (I p.am) = X3 ∧ X3.setCell ⟨g, i * 4 + 3, none⟩ (I p.an) = X4) ∧
      (W.cell? ⟨g, i * 4, none⟩ = some (I q.n) ∧ X1.cell? ⟨g, i * 4 + 1, none⟩ = some (I q.top) ∧ X2.cell? ⟨g, i * 4 + 2, none⟩ = some (I q.am) ∧ X3.cell? ⟨g, i * 4 + 3, none⟩ = some (I q.an)) ∧
      (W.frozen? ⟨g, i * 4, none⟩ = false ∧ X1.frozen? ⟨g, i * 4 + 1, none⟩ = false ∧ X2.frozen? ⟨g, i * 4 + 2, none⟩ = false ∧ X3.frozen? ⟨g, i * 4 + 3, none⟩ = false) ∧
      X4.ownsRow base 182 4 (.slice (some ⟨g, 0, none⟩) n cap) n (rowsOf row (es.set i p)) ∧ Fr [g] W X4 ∧ X4.heap.size = W.heap.size := by
  obtain ⟨hl0, ⟨e0, _⟩ | ⟨g', cap', cur, e0, hgb, hgg, hcap, hcm, hcs, htk⟩⟩ := own
  · simp at e0
  simp only [Value.slice.injEq, Option.some.injEq, Addr.mk.injEq] at e0
  obtain ⟨⟨rfl, -, -⟩, -, rfl⟩ := e0
  have hin : i < n := by have := (List.getElem?_eq_some_iff.1 hi).1; omega
  obtain ⟨r0, r1, r2, r3⟩ := rows_at es i q hi
  have hcur : ∀ (j : Nat) (u : Value), (rowsOf row es)[j]? = some u → cur[j]? = some u := by
    intro j u hj
    have hj2 := (List.getElem?_eq_some_iff.1 hj).1
    rw [← htk] at hj
    rw [List.getElem?_take_of_lt (by omega)] at hj
    simpa using hj
  have h1 := heap_set hgg (i * 4) (I p.n)
  have h2 := heap_set h1 (i * 4 + 1) (I p.top)
  have h3 := heap_set h2 (i * 4 + 2) (I p.am)
  have h4 := heap_set h3 (i * 4 + 3) (I p.an)
  refine ⟨_, _, _, _, ⟨rfl, rfl, rfl, rfl⟩, ⟨?_, ?_, ?_, ?_⟩, ⟨frozen_of hgg _, frozen_of h1 _, frozen_of h2 _, frozen_of h3 _⟩, ⟨?_, .inr ⟨g, cap, _, rfl, hgb, h4, hcap, hcm, ?_, ?_⟩⟩, ?_, ?_⟩
  · rw [cell_of hgg]; exact hcur _ _ r0
  · rw [cell_of h1, Array.getElem?_setIfInBounds_ne (by omega)]; exact hcur _ _ r1
  · rw [cell_of h2, Array.getElem?_setIfInBounds_ne (by omega), Array.getElem?_setIfInBounds_ne (by omega)]; exact hcur _ _ r2
  · rw [cell_of h3, Array.getElem?_setIfInBounds_ne (by omega), Array.getElem?_setIfInBounds_ne (by omega), Array.getElem?_setIfInBounds_ne (by omega)]; exact hcur _ _ r3
  · rw [rows_len]; simp; omega
  · simpa using hcs
  · have hf : ∀ f, f < 4 → i * 4 + f = 4 * i + f := by intro f _; omega
    have s0 := rowsOf_set row 4 row_length es i 0 q ⟨p.n, q.top, q.am, q.an⟩ (I p.n) hi (by omega) rfl
    have s1 := rowsOf_set row 4 row_length (es.set i ⟨p.n, q.top, q.am, q.an⟩) i 1 ⟨p.n, q.top, q.am, q.an⟩ ⟨p.n, p.top, q.am, q.an⟩ (I p.top) (get_set hi _) (by omega) rfl
    have s2 := rowsOf_set row 4 row_length (es.set i ⟨p.n, p.top, q.am, q.an⟩) i 2 ⟨p.n, p.top, q.am, q.an⟩ ⟨p.n, p.top, p.am, q.an⟩ (I p.am) (get_set hi _) (by omega) rfl
    have s3 := rowsOf_set row 4 row_length (es.set i ⟨p.n, p.top, p.am, q.an⟩) i 3 ⟨p.n, p.top, p.am, q.an⟩ p (I p.an) (get_set hi _) (by omega) rfl
    simp only [List.set_set] at s1 s2 s3
    simp only [Array.toList_setIfInBounds, List.take_set, htk]
    rw [show i * 4 = 4 * i + 0 by omega, show 4 * i + 0 + 1 = 4 * i + 1 by omega, show 4 * i + 0 + 2 = 4 * i + 2 by omega, show 4 * i + 0 + 3 = 4 * i + 3 by omega, s0, s1, s2, s3]
  · exact ((((Fr.refl [g] W).set (a := ⟨g, i * 4, none⟩) (by simp) _).set (a := ⟨g, i * 4 + 1, none⟩) (by simp) _).set (a := ⟨g, i * 4 + 2, none⟩) (by simp) _).set (a := ⟨g, i * 4 + 3, none⟩) (by simp) _
  · simp [World.setCell]
end Go.Proofs.YtlngeaacjbdmhaaGreat.Mt

namespace Go.Proofs.YtlngeaacjbdmhaaGreat.Mt
open Go.RowKit
attribute [local go_sem ↓] Go.wp_at_zero Go.wp_at_succ
/-- Those of the first j of which it is not so. -/
def kept (es : Ents) (P : Ld → Bool) (j : Nat) : Ents := (es.take j).filter fun p => !P p
theorem kept_yes {es : Ents} {P : Ld → Bool} {j : Nat} {p : Ld} (h : es[j]? = some p) (hp : P p = false) : kept es P (j + 1) = kept es P j ++ [p] := by
  rw [kept, kept, List.take_add_one, h]; simp [hp]
theorem kept_no {es : Ents} {P : Ld → Bool} {j : Nat} {p : Ld} (h : es[j]? = some p) (hp : P p = true) : kept es P (j + 1) = kept es P j := by
  rw [kept, kept, List.take_add_one, h]; simp [hp]
theorem kept_le (es : Ents) (P : Ld → Bool) (j : Nat) : (kept es P j).length ≤ j := by
  have := List.length_filter_le (fun p => !P p) (es.take j)
  simp [kept] at this ⊢
  omega
theorem kept_first {es : Ents} {P : Ld → Bool} {i : Nat} (hi : es.findIdx P = i) (hn : i < es.length) : kept es P (i + 1) = es.take i := by
  subst hi
  have h1 : P es[es.findIdx P] = true := List.findIdx_getElem (w := hn)
  rw [kept_no (List.getElem?_eq_getElem hn) h1, kept]
  rw [List.filter_eq_self]
  intro p hp
  obtain ⟨k, hk, rfl⟩ := List.mem_take_iff_getElem.1 hp
  have := List.not_of_lt_findIdx (xs := es) (p := P) (i := k) (by omega)
  simp [this]
/-- What lies while the mounts that stay move up. -/
structure DJ (base g n cap : Nat) (es : Ents) (P : Ld → Bool) (w W : World) (j : Nat) (ej : Ents) : Prop where
  len : ej.length = n
  own : W.ownsRow base 182 4 (.slice (some ⟨g, 0, none⟩) n cap) n (rowsOf row ej)
  lo : ∀ k, k < (kept es P j).length → ej[k]? = (kept es P j)[k]?
  hi : ∀ k, j ≤ k → ej[k]? = es[k]?
  fr : Fr [g] w W
theorem heap_setCells {b : Nat} {t : TypeId} : ∀ (vs : List Value) (o : Nat) (W : World) (cs : Array Value), W.heap[b]? = some (.cells cs t) → o + vs.length ≤ cs.size →
    ∃ cs' : Array Value, (W.setCells b o vs).heap[b]? = some (.cells cs' t) ∧ cs'.toList = cs.toList.take o ++ vs ++ cs.toList.drop (o + vs.length)
  | [], o, W, cs, h, _ => ⟨cs, h, by simp⟩
  | v :: r, o, W, cs, h, hl => by
    simp only [List.length_cons] at hl
    obtain ⟨cs', h1, h2⟩ := heap_setCells r (o + 1) (W.setCell ⟨b, o, none⟩ v) (cs.setIfInBounds o v) (heap_set h o v) (by simp; omega)
    refine ⟨cs', h1, ?_⟩
    have hlt : o < cs.toList.length := by simp; omega
    have e : (cs.setIfInBounds o v).toList = cs.toList.take o ++ v :: cs.toList.drop (o + 1) := by
      rw [Array.toList_setIfInBounds, List.set_eq_take_append_cons_drop, if_pos hlt]
    have hto : (cs.toList.take o).length = o := by rw [List.length_take]; omega
    rw [h2, e, List.take_append, List.drop_append, hto]
    have hdn : (cs.toList.take o).drop (o + 1 + r.length) = [] := List.drop_eq_nil_of_le (by omega)
    rw [List.take_of_length_le (l := cs.toList.take o) (by omega), hdn]
    rw [show o + 1 - o = 1 by omega, show o + 1 + r.length - o = r.length + 1 by omega, show o + (v :: r).length = o + 1 + r.length by simp; omega]
    simp
theorem fr_setCells (b : Nat) : ∀ (vs : List Value) (o : Nat) (W : World), Fr [b] W (W.setCells b o vs)
  | [], _, W => Fr.refl _ W
  | v :: r, o, W => ((Fr.refl [b] W).set (a := ⟨b, o, none⟩) (by simp) v).trans (fr_setCells b r (o + 1) _)
/-- The last of the row is cleared. -/
theorem clear_last {base g n cap : Nat} {ej : Ents} {W : World} (own : W.ownsRow base 182 4 (.slice (some ⟨g, 0, none⟩) n cap) n (rowsOf row ej)) (hn : ej.length = n) (h0 : 0 < n) :
    ∃ W1 : World, (∀ ty, (Builtin.clear_ #[219] ty #[.slice (some ⟨g, (n - 1) * 4, none⟩) 1 (cap - (n - 1))]).run Tryz.prog W = .ok (.tuple #[]) W1) ∧ W1.ownsRow base 182 4 (.slice (some ⟨g, 0, none⟩) (n - 1) cap) (n - 1) (rowsOf row (ej.take (n - 1))) ∧ Fr [g] W W1 := by
  obtain ⟨i0, hi0, hz0, hz1, hz2⟩ := info_parts infoL
  obtain ⟨hl0, ⟨e0, _⟩ | ⟨g', cap', cur, e0, hgb, hgg, hcap, hcm, hcs, htk⟩⟩ := own
  · simp at e0
  simp only [Value.slice.injEq, Option.some.injEq, Addr.mk.injEq] at e0
  obtain ⟨⟨rfl, -, -⟩, -, rfl⟩ := e0
  obtain ⟨cs2, d1, d2⟩ := heap_setCells (b := g) (t := 182) [I 0, I 0, I 0, I 0] ((n - 1) * 4) W cur hgg (by simp; omega)
  refine ⟨W.setCells g ((n - 1) * 4) [I 0, I 0, I 0, I 0], ?_, ⟨?_, .inr ⟨g, cap, cs2, rfl, hgb, d1, by omega, hcm, ?_, ?_⟩⟩, fr_setCells _ _ _ _⟩
  · intro ty
    have hst := run_storeCells_cells (P := Tryz.prog) g ((n - 1) * 4) [I 0, I 0, I 0, I 0] 0 W
      (fun j hj => by simp at hj; rw [cell_of hgg, Array.getElem?_eq_getElem (by omega)]; rfl) (fun j _ => frozen_of hgg _) (by intro v hv; simp at hv; rw [hv]; rfl)
    simp only [Nat.add_zero] at hst
    have hzc : (Builtin.zeroCells (Value.agg #[I 0, I 0, I 0, I 0]).cells 1).toList = [I 0, I 0, I 0, I 0] := by kernel_rfl
    simp [Builtin.clear_, run_underlying Tryz.underlying219, hzc, hst]
  · rw [rows_len]; simp; omega
  · have : cs2.toList.length = cap * 4 := by rw [d2]; simp; omega
    simpa using this
  · have l1 : (cur.toList.take ((n - 1) * 4)).length = (n - 1) * 4 := by simp; omega
    rw [d2, List.append_assoc, List.take_left' l1, rows_take, ← htk, List.take_take, show min ((n - 1) * 4) (n * 4) = (n - 1) * 4 by omega]
set_option maxRecDepth 100000 in
set_option maxHeartbeats 1000000 in
theorem delF_any (base g n cap : Nat) (es : Ents) (F x : Nat) (P : Ld → Bool) (w : World) (hn : es.length = n) (hown : w.ownsRow base 182 4 (.slice (some ⟨g, 0, none⟩) n cap) n (rowsOf row es)) (hl : n ≤ 1000) (hgx : g ≠ x) (hbx : x < w.heap.size)
    (hone : (kept es P n).length + 1 = n) (hany : es.findIdx P < n)
    (hE : ∀ args w, (callFunc F args).run Tryz.prog w = .ok (.enter F args) w)
    (hF : ∀ p W, W.heap[x]? = w.heap[x]? → Calls Tryz.prog F #[lv p, .pointer (some ⟨x, 0, none⟩)] W fun e W' => e = .returned (.bool (P p)) ∧ Below W.heap.size W W') :
    Calls Tryz.prog 153 #[.slice (some ⟨g, 0, none⟩) n cap, .func (.func F) #[] #[.pointer (some ⟨x, 0, none⟩)]] w fun e w' => e = .returned (.slice (some ⟨g, 0, none⟩) (n - 1) cap) ∧
      w'.ownsRow base 182 4 (.slice (some ⟨g, 0, none⟩) (n - 1) cap) (n - 1) (rowsOf row (kept es P n)) ∧ Fr [g] w w' := by
  obtain ⟨i, hi⟩ : ∃ i, es.findIdx P = i := ⟨_, rfl⟩
  rw [hi] at hany
  have HI := hide (idx_any base g n cap es F x P w hn hown hl i hi hany hE (fun p W hB => hF p W (hB.block x hbx)))
  have J0 : ∀ W, Below w.heap.size w W → DJ base g n cap es P w W (i + 1) es := fun W hB => by
    have hk := kept_first hi (by omega)
    exact ⟨hn, own_keep hown (fun k cur hc => hB.block k (lt_of_heap hc)), fun k hk' => by rw [hk] at hk' ⊢; rw [List.getElem?_take_of_lt]; simp at hk'; omega, fun _ _ => rfl, Fr.of_below hB⟩
  have HJ0 := hide J0
  have HF := hide hF
  have Hn := hide hn
  have Hk := hide (kept_first hi (by omega : i < es.length))
  clear hF J0 hown hn hi
  go_enter Tryz.func153, Tryz.ntmps153
  go_wp2_with fail
  refine (unhide HI).mono ?_
  rintro e w1 ⟨rfl, hB⟩
  have HJ := hide (unhide HJ0 w1 hB)
  clear HI HJ0 hB
  have j1 : ¬ (i : Int) = -1 := by omega
  go_wp2_with fail
  have j2 : ((i : Int) == -1) = false := by simp
  simp only [j2]
  go_loopw [5, 6] (fun vi vj wr => ∃ (j : Nat) (ej : Ents), j ≤ n ∧ vi = I ((kept es P j).length : Int) ∧ vj = I (j : Int) ∧ DJ base g n cap es P w wr j ej) (fun _ vj _ => n - (intOf vj).toNat)
  case atStart => exact ⟨i + 1, es, by omega, by rw [unhide Hk]; simp; have := unhide Hn; omega, by go_num, unhide HJ⟩
  case round =>
    clear HJ Hk
    obtain ⟨j, ej, hj, rfl, rfl, J⟩ := hrel
    have hkl := kept_le es P j
    by_cases hjn : j < n
    · have hje : j < es.length := by have := unhide Hn; omega
      obtain ⟨p, hp⟩ : ∃ p, es[j]? = some p := ⟨_, List.getElem?_eq_getElem hje⟩
      have hpe := (J.hi j (Nat.le_refl _)).trans hp
      obtain ⟨g', eg, c0, c1, c2, c3, _, hgl⟩ := own_at J.own hpe J.len
      simp only [Option.some.injEq, Addr.mk.injEq, and_true] at eg
      subst eg
      obtain ⟨W2, hW2⟩ : ∃ W2, wr.alloc (.cells #[I p.n, I p.top, I p.am, I p.an] 182) = W2 := ⟨_, rfl⟩
      have hm2 : W2.heap[wr.heap.size]? = some (.cells #[I p.n, I p.top, I p.am, I p.an] 182) := by rw [← hW2]; exact putAll _ _ rfl
      have hB2 : Below wr.heap.size wr W2 := by rw [← hW2]; exact below_alloc _ _
      obtain ⟨l0, l1, l2, l3⟩ := cells4 hm2
      have hxr : x < wr.heap.size := Nat.lt_of_lt_of_le hbx J.fr.size
      have HC := hide (unhide HF p W2 ((hB2.block x hxr).trans (J.fr.blk x hbx (by simp; exact fun h => hgx h.symm))))
      have q1 : (j : Int) < (n : Int) := by omega
      have q0 : (0 : Int) ≤ (j : Int) := by omega
      have HJ := hide J
      have Hp := hide hp
      have HB2 := hide hB2
      have Hm2 := hide hm2
      clear J hp hpe hje hB2 hm2 HF
      go_wp2_with fail
      refine (unhide HC).mono ?_
      rintro e w2 ⟨rfl, hB3⟩
      have hB4 := (unhide HB2).trans (hB3.mono (unhide HB2).size)
      have hm3 := (hB3.block _ (lt_of_heap (unhide Hm2))).trans (unhide Hm2)
      have J3 : DJ base g n cap es P w w2 j ej := ⟨(unhide HJ).len, own_keep (unhide HJ).own (fun k cur hc => hB4.block k (lt_of_heap hc)), (unhide HJ).lo, (unhide HJ).hi, (unhide HJ).fr.trans (Fr.of_below hB4)⟩
      have hgy : g ≠ wr.heap.size := by omega
      clear l0 l1 l2 l3 c0 c1 c2 c3 HC HJ HB2 Hm2 hB3 hB4 hW2
      cases hP : P p with
      | true =>
        have HN := hide (⟨j + 1, ej, by omega, by rw [kept_no (unhide Hp) hP], by go_num, ⟨J3.len, J3.own, fun k hk => by rw [kept_no (unhide Hp) hP] at hk ⊢; exact J3.lo k hk, fun k hk => J3.hi k (by omega), J3.fr⟩⟩ : ∃ (j' : Nat) (ej : Ents), j' ≤ n ∧ I ((kept es P j).length : Int) = I ((kept es P j').length : Int) ∧ I ((j : Int) + 1) = I (j' : Int) ∧ DJ base g n cap es P w w2 j' ej)
        clear J3 hm3 hP
        generalize (kept es P j).length = c at *
        go_wp2_with fail
        go_roundw
        case rel => exact unhide HN
        case measure => simp [intOf]; omega
      | false =>
        obtain ⟨q, hq⟩ : ∃ q, ej[(kept es P j).length]? = some q := ⟨_, List.getElem?_eq_getElem (by have := J3.len; omega)⟩
        obtain ⟨X1, X2, X3, X4, ⟨x1, x2, x3, x4⟩, ⟨c0, c1, c2, c3⟩, ⟨f0, f1, f2, f3⟩, own4, hfr, hsz⟩ := own_set4 (p := p) J3.own J3.len hq
        obtain ⟨l0, l1, l2, l3⟩ := cells4 hm3
        have hlk : (kept es P (j + 1)).length = (kept es P j).length + 1 := by rw [kept_yes (unhide Hp) hP]; simp
        have J4 : DJ base g n cap es P w X4 (j + 1) (ej.set (kept es P j).length p) := by
          refine ⟨by simp; exact J3.len, own4, fun k hk => ?_, fun k hk => ?_, J3.fr.trans hfr⟩
          · rw [hlk] at hk
            rw [kept_yes (unhide Hp) hP]
            by_cases e : k = (kept es P j).length
            · subst e
              rw [List.getElem?_set_self (by have := J3.len; omega)]
              simp
            · rw [List.getElem?_set_ne (fun h => e h.symm), List.getElem?_append_left (by omega)]
              exact J3.lo k (by omega)
          · rw [List.getElem?_set_ne (by omega)]
            exact J3.hi k (by omega)
        have HN := hide (⟨j + 1, _, by omega, by rw [hlk]; go_num, by go_num, J4⟩ : ∃ (j' : Nat) (ej : Ents), j' ≤ n ∧ I (((kept es P j).length : Int) + 1) = I ((kept es P j').length : Int) ∧ I ((j : Int) + 1) = I (j' : Int) ∧ DJ base g n cap es P w X4 j' ej)
        clear J3 J4 hm3 hP hlk own4 hfr hsz hq
        generalize (kept es P j).length = c at *
        have y1 : (c : Int) < (n : Int) := by omega
        have y0 : (0 : Int) ≤ (c : Int) := by omega
        go_wp2_with fail
        go_roundw
        case rel => exact unhide HN
        case measure => simp [intOf]; omega
    · obtain rfl : j = n := by omega
      obtain ⟨W1, hcl, ownc, hfc⟩ := clear_last J.own J.len (by omega)
      have ek : ej.take (j - 1) = kept es P j := by
        apply List.ext_getElem?
        intro k
        by_cases hk : k < j - 1
        · rw [List.getElem?_take_of_lt hk]
          exact J.lo k (by omega)
        · rw [List.getElem?_eq_none (by simp; omega), List.getElem?_eq_none (by omega)]
      rw [ek] at ownc
      have HO := hide ownc
      have HFR := hide (J.fr.trans hfc)
      have hcap : j ≤ cap := by
        obtain ⟨-, ⟨e0, _⟩ | ⟨_, _, _, e0, _, _, h, _⟩⟩ := J.own
        · simp at e0
        · simp at e0; omega
      have hlen : (kept es P j).length = j - 1 := by omega
      rw [hlen]
      have y1 : ((j - 1 : Nat) : Int) ≤ (j : Int) := by omega
      have y0 : (0 : Int) ≤ ((j - 1 : Nat) : Int) := by omega
      have e2 : j - (j - 1) = 1 := by omega
      have e3 : ¬ cap = j - 1 := by omega
      clear J ek ownc hfc hkl HF Hn hlen hone
      generalize hc : j - 1 = c at *
      have Hc := hide hc
      clear hc
      go_wp2_with fail
      go_ret
      rw [unhide Hc]
      exact ⟨rfl, unhide HO, unhide HFR⟩
end Go.Proofs.YtlngeaacjbdmhaaGreat.Mt

namespace Go.Proofs.YtlngeaacjbdmhaaGreat.Mt
open Go.RowKit
attribute [local go_sem ↓] Go.wp_at_zero Go.wp_at_succ
/-- Numbers rise. -/
def Rise (es : Ents) : Prop := es.Pairwise fun p q => p.n < q.n
def unb (es : Ents) (m : Int) : Ents := es.filter fun p => !isN m p
theorem any_iff {es : Ents} {P : Ld → Bool} : any es P = true ↔ ∃ p ∈ es, P p = true := by
  rw [any, List.find?_isSome]
theorem any_false {es : Ents} {P : Ld → Bool} : any es P = false ↔ ∀ p ∈ es, P p = false := by
  rw [← Bool.not_eq_true, any_iff]
  simp
theorem one_gone : ∀ {es : Ents} {m : Int}, Rise es → any es (isN m) = true → (unb es m).length + 1 = es.length
  | [], m, _, h => by simp [any] at h
  | p :: es, m, hr, h => by
    obtain ⟨h1, h2⟩ := List.pairwise_cons.1 hr
    by_cases e : p.n = m
    · have hne : ∀ q ∈ es, (!isN m q) = true := by
        intro q hq
        have := h1 q hq
        simp [isN]
        omega
      rw [unb, List.filter_cons_of_neg (by simp [isN, e]), List.filter_eq_self.2 hne]
      simp
    · have ha : any es (isN m) = true := by
        obtain ⟨q, hq, hm⟩ := any_iff.1 h
        rcases List.mem_cons.1 hq with rfl | hq
        · simp [isN] at hm; exact absurd hm e
        · exact any_iff.2 ⟨q, hq, hm⟩
      have ih := one_gone h2 ha
      rw [unb, List.filter_cons_of_pos (by simp [isN, e])]
      simp only [unb] at ih
      simp
      omega
/-- With which number Unbind refuses (0: it is done). -/
def unbE (es : Ents) (m : Int) : Int := if any es (isN m) = false then 1 else if any es (isM m) = true then 15 else 0
theorem unbind_no (base b : Nat) (rt md m k : Int) (es : Ents) (w : World) (hG : Ls base w b rt md es) (hes : es.length ≤ 1000) (hk : unbE es m = k) (h0 : k ≠ 0) :
    Calls Tryz.prog 99 #[.pointer (some ⟨b, 0, none⟩), I m] w fun e w' => e = .returned (I k) ∧ Below w.heap.size w w' := by
  obtain ⟨V, hV, hs, hx, hb⟩ : ∃ V, w.alloc (.cells #[I m] 3) = V ∧ V.heap.size = w.heap.size + 1 ∧ V.heap[w.heap.size]? = some (.cells #[I m] 3) ∧ Below w.heap.size w V := ⟨_, rfl, by simp, putAll _ _ rfl, below_alloc _ _⟩
  have v0 : V.cell? ⟨w.heap.size, 0, none⟩ = some (I m) := by rw [cell_of hx]; rfl
  have H1 := hide (numbered_any base b rt md m es V (hG.below hb) hes)
  have H2 := hide (fun W (hB : Below V.heap.size V W) => first_any base b rt md es 152 w.heap.size (isM m) W ((hG.below hb).below hB) hes (enters_of Tryz.func152 (by kernel_rfl) rfl)
    (fun p X hX => un1_any p _ m X (by rw [World.cell?_of_block (hX.block w.heap.size (by have := hB.size; omega)), World.cell?_of_block (hB.block w.heap.size (by omega))]; exact v0)))
  unfold unbE at hk
  generalize fst es (isN m) = x1 at *
  generalize any es (isN m) = y1 at *
  generalize fst es (isM m) = x2 at *
  generalize any es (isM m) = y2 at *
  have HB := hide hb
  clear hG hb hx
  go_enter Tryz.func99, Tryz.ntmps99
  go_wp2_with fail
  refine (unhide H1).mono ?_
  rintro e w1 ⟨rfl, hB⟩
  have hE := hide ((unhide HB).trans (hB.mono (by omega)))
  have hB1 := hB.alloc hB.size (.cells #[I x1.n, I x1.top, I x1.am, I x1.an] 182)
  cases y1 with
  | false =>
    obtain rfl : 1 = k := by simpa using hk
    clear hB hB1 HB H1 H2 hV h0 hk v0
    unfold lv
    go_wp2_with fail
    go_ret
    exact ⟨rfl, (unhide hE).alloc (unhide hE).size _⟩
  | true =>
    obtain rfl : y2 = true := by
      cases y2 with
      | true => rfl
      | false => exact absurd (by simpa using hk.symm) h0
    obtain rfl : 15 = k := by simpa using hk
    have H2' := hide (unhide H2 _ hB1)
    have hE1 := hide ((unhide HB).trans (hB1.mono (by omega)))
    clear hB hB1 H1 H2 hV h0 hk v0 hE HB
    unfold lv
    go_wp2_with fail
    refine (unhide H2').mono ?_
    rintro e w2 ⟨rfl, hB2⟩
    have hE2 := hide ((unhide hE1).trans (hB2.mono (unhide hE1).size))
    clear hB2 hE1 H2'
    unfold lv
    go_wp2_with fail
    go_ret
    exact ⟨rfl, (unhide hE2).alloc (unhide hE2).size _⟩
set_option maxHeartbeats 1000000 in
theorem unbind_yes (base b : Nat) (rt md m : Int) (es : Ents) (w : World) (hG : Ls base w b rt md es) (hes : es.length ≤ 1000) (hr : Rise es) (hk : unbE es m = 0) :
    Calls Tryz.prog 99 #[.pointer (some ⟨b, 0, none⟩), I m] w fun e w' => e = .returned (I 0) ∧ Ls base w' b rt md (unb es m) ∧ Fm base b w w' := by
  obtain ⟨V, hV, hs, hx, hb⟩ : ∃ V, w.alloc (.cells #[I m] 3) = V ∧ V.heap.size = w.heap.size + 1 ∧ V.heap[w.heap.size]? = some (.cells #[I m] 3) ∧ Below w.heap.size w V := ⟨_, rfl, by simp, putAll _ _ rfl, below_alloc _ _⟩
  have v0 : V.cell? ⟨w.heap.size, 0, none⟩ = some (I m) := by rw [cell_of hx]; rfl
  have hbase := hG.base_le
  have hbl := hG.lt
  have H1 := hide (numbered_any base b rt md m es V (hG.below hb) hes)
  have H2 := hide (fun W (hB : Below V.heap.size V W) => first_any base b rt md es 152 w.heap.size (isM m) W ((hG.below hb).below hB) hes (enters_of Tryz.func152 (by kernel_rfl) rfl)
    (fun p X hX => un1_any p _ m X (by rw [World.cell?_of_block (hX.block w.heap.size (by have := hB.size; omega)), World.cell?_of_block (hB.block w.heap.size (by omega))]; exact v0)))
  have hya : any es (isN m) = true := by
    cases h : any es (isN m) with
    | true => rfl
    | false => simp [unbE, h] at hk
  have hyb : any es (isM m) = false := by
    cases h : any es (isM m) with
    | false => rfl
    | true => simp [unbE, h, hya] at hk
  have hone := one_gone hr hya
  have hidx : es.findIdx (isN m) < es.length := List.findIdx_lt_length.2 (any_iff.1 hya)
  have hkept : kept es (isN m) es.length = unb es m := by rw [kept, List.take_length]; rfl
  -- the row's own block, and DeleteFunc
  have H3 : Hid (∀ W, Below V.heap.size V W → ∃ g cap, (W.cell? ⟨b, 2, none⟩ = some (.slice (some ⟨g, 0, none⟩) es.length cap) ∧ W.frozen? ⟨b, 2, none⟩ = false) ∧
      Calls Tryz.prog 153 #[.slice (some ⟨g, 0, none⟩) es.length cap, .func (.func 154) #[] #[.pointer (some ⟨w.heap.size, 0, none⟩)]] W fun e w' => e = .returned (.slice (some ⟨g, 0, none⟩) (es.length - 1) cap) ∧
        (w'.cell? ⟨b, 2, none⟩ = some (.slice (some ⟨g, 0, none⟩) es.length cap) ∧ w'.frozen? ⟨b, 2, none⟩ = false) ∧ Ls base (w'.setCell ⟨b, 2, none⟩ (.slice (some ⟨g, 0, none⟩) (es.length - 1) cap)) b rt md (unb es m) ∧ Fm base b w (w'.setCell ⟨b, 2, none⟩ (.slice (some ⟨g, 0, none⟩) (es.length - 1) cap))) := by
    intro W hB
    have GW := (hG.below hb).below hB
    obtain ⟨a, cap, c0, c1, c2, cf, own⟩ := GW.cells
    obtain ⟨g, ⟨_, hz, _⟩ | rfl⟩ := own_addr own
    · omega
    have hgw : g < w.heap.size := by
      obtain ⟨a', cap', _, _, d2, _, own'⟩ := hG.cells
      have hbW := (hB.block b (by omega)).trans (hb.block b hbl)
      rw [World.cell?_of_block (a := ⟨b, 2, none⟩) hbW, d2] at c2
      simp only [Option.some.injEq, Value.slice.injEq] at c2
      obtain ⟨rfl, -, rfl⟩ := c2
      obtain ⟨g', _, cur, e1, _, hg, _⟩ := own_open own' (by omega)
      simp only [Value.slice.injEq, Option.some.injEq, Addr.mk.injEq] at e1
      rw [e1.1.1]
      exact lt_of_heap hg
    have hB0 := hb.trans (hB.mono (by omega))
    refine ⟨g, cap, ⟨c2, cf 2⟩, (delF_any base g es.length cap es 154 w.heap.size (isN m) W rfl own hes (by omega) (by have := hB.size; omega) (by rw [hkept]; exact hone) hidx (enters_of Tryz.func154 (by kernel_rfl) rfl)
      (fun p X hX => un2_any p _ m X (by rw [World.cell?_of_block hX, World.cell?_of_block (hB.block w.heap.size (by omega))]; exact v0))).mono ?_⟩
    rintro e w' ⟨rfl, own2, hfr⟩
    rw [hkept] at own2
    have hgB : base ≤ g ∧ ∃ cur, W.heap[g]? = some (.cells cur 182) := by
      obtain ⟨g', _, cur, e1, h1, hg, _⟩ := own_open own (by omega)
      simp only [Value.slice.injEq, Option.some.injEq, Addr.mk.injEq] at e1
      rw [e1.1.1]
      exact ⟨h1, cur, hg⟩
    obtain ⟨hgb, cur, hgc⟩ := hgB
    obtain ⟨a0, cap0, hbW, _⟩ := GW.hb
    have hbg : b ≠ g := by
      rintro rfl
      rw [hbW] at hgc
      simp at hgc
    have hbw' : w'.heap[b]? = some (.cells #[I rt, I md, .slice a0 es.length cap0] 221) := (hfr.blk b GW.lt (by simpa using hbg)).trans hbW
    have ec : w'.cell? ⟨b, 2, none⟩ = some (.slice (some ⟨g, 0, none⟩) es.length cap) := (World.cell?_of_block (hfr.blk b GW.lt (by simpa using hbg))).trans c2
    refine ⟨rfl, ⟨ec, frozen_of hbw' 2⟩, ⟨⟨some ⟨g, 0, none⟩, cap, ?_, ?_⟩, hG.kb⟩, ?_⟩
    · rw [heap_set hbw', show (unb es m).length = es.length - 1 by omega]; simp
    · rw [show (unb es m).length = es.length - 1 by omega]
      refine own_keep own2 fun k cur hc => Below.heap_setCell _ _ _ _ ?_
      rintro rfl
      rw [hbw'] at hc
      simp at hc
    · refine (Fm.of_below hB0 hbase).trans ((⟨hfr.os, hfr.tape, hfr.output, hfr.size, fun k hk => hfr.blk k (by have := hB0.size; omega) (by simp; omega), fun k o h1 h2 h3 => (hfr.blk k (lt_of_heap h1) ?_).trans h1⟩ : Fm base b W w').set (p := ⟨b, 2, none⟩) rfl hG.kb _)
      simp
      rintro rfl
      rw [hgc] at h1
      exact h3 _ (Option.some.inj h1).symm
  rw [hyb] at H2
  rw [hya] at H1
  generalize fst es (isN m) = x1 at *
  generalize fst es (isM m) = x2 at *
  clear hG hb hx hya hyb hidx hkept hk hr
  have hlen : 1 ≤ es.length := by omega
  obtain ⟨n, hn⟩ : ∃ n, n = es.length := ⟨_, rfl⟩
  rw [← hn] at H3 hlen
  clear hone hes hn
  go_enter Tryz.func99, Tryz.ntmps99
  go_wp2_with fail
  refine (unhide H1).mono ?_
  rintro e w1 ⟨rfl, hB⟩
  have hB1 := hB.alloc hB.size (.cells #[I x1.n, I x1.top, I x1.am, I x1.an] 182)
  have H2' := hide (unhide H2 _ hB1)
  have HB1 := hide hB1
  clear hB hB1 H1 H2 hV v0
  unfold lv
  go_wp2_with fail
  refine (unhide H2').mono ?_
  rintro e w2 ⟨rfl, hB2⟩
  have hB3 := (unhide HB1).trans (hB2.mono (unhide HB1).size)
  have hB4 := hB3.alloc hB3.size (.cells #[I x2.n, I x2.top, I x2.am, I x2.an] 182)
  obtain ⟨g, cap, ⟨c2, cf⟩, HD⟩ := unhide H3 _ hB4
  have HD' := hide HD
  clear hB2 hB3 hB4 HB1 H2' H3 HD
  unfold lv
  go_wp2_with fail
  refine (unhide HD').mono ?_
  rintro e w3 ⟨rfl, ⟨d2, df⟩, hL, hF⟩
  have HL := hide hL
  have HF := hide hF
  clear hL hF HD' c2 cf
  generalize n - 1 = n1 at *
  go_wp2_with fail
  go_ret
  exact ⟨rfl, unhide HL, unhide HF⟩
end Go.Proofs.YtlngeaacjbdmhaaGreat.Mt
