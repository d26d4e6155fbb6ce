/-
  The document's own list in its two blocks: its struct and the row of its items; what a store leaves; a row without one of its items, laid anew.
-/
import Derived.Test.YtjcjibjagjiedaaAny
import Derived.Deep.RegionLaw
namespace Go.Proofs.Ytjcjibjagjiedaa
open Go.RowKit
attribute [local go_sem ↓] Go.wp_at_zero Go.wp_at_succ

/-- But for the block b, and rows of entries, all that lay lies as it lay; below base all does. -/
structure RFr (base b : Nat) (w w' : World) : Prop where
  os : w'.os = w.os
  tape : w'.tape = w.tape
  output : w'.output = w.output
  size : w.heap.size ≤ w'.heap.size
  low : ∀ k, k < base → w'.heap[k]? = w.heap[k]?
  blk : ∀ (k : Nat) (o : Obj), w.heap[k]? = some o → k ≠ b → (∀ cur, o ≠ .cells cur 63 (0, 0)) → w'.heap[k]? = some o

theorem RFr.refl (base b : Nat) (w : World) : RFr base b w w := ⟨rfl, rfl, rfl, Nat.le_refl _, fun _ _ => rfl, fun _ _ h _ _ => h⟩
theorem RFr.trans {base b : Nat} {u v w : World} (h : RFr base b u v) (g : RFr base b v w) : RFr base b u w :=
  ⟨g.os.trans h.os, g.tape.trans h.tape, g.output.trans h.output, Nat.le_trans h.size g.size, fun k hk => (g.low k hk).trans (h.low k hk), fun k o h1 h2 h3 => g.blk k o (h.blk k o h1 h2 h3) h2 h3⟩
theorem RFr.of_below {base b : Nat} {w w' : World} (h : Below w.heap.size w w') (hb : base ≤ w.heap.size) : RFr base b w w' :=
  ⟨h.os, h.tape, h.output, h.size, fun k hk => h.block k (by omega), fun k _ hk _ _ => (h.block k (lt_of_heap hk)).trans hk⟩
theorem RFr.alloc {base b : Nat} {u w : World} (h : RFr base b u w) (hb : base ≤ w.heap.size) (o : Obj) : RFr base b u (w.alloc o) :=
  h.trans (.of_below ((Below.refl _ w).alloc (Nat.le_refl _) o) hb)
theorem RFr.drew {base b : Nat} {u w : World} (h : RFr base b u w) : RFr base b u w.drew := ⟨h.os, h.tape, h.output, h.size, h.low, h.blk⟩
theorem RFr.dn {base b : Nat} {u w : World} (h : RFr base b u w) (m : Nat) : RFr base b u (w.drewN m) := ⟨h.os, h.tape, h.output, h.size, h.low, h.blk⟩
theorem RFr.set {base b : Nat} {u w : World} (h : RFr base b u w) {p : Addr} (hp : p.block = b) (hb : base ≤ b) (v : Value) : RFr base b u (w.setCell p v) :=
  h.trans ⟨rfl, rfl, rfl, by simp [World.setCell], fun k hk => Below.heap_setCell _ _ _ _ (by omega), fun k o h1 h2 _ => (Below.heap_setCell _ _ _ _ (by omega)).trans h1⟩
theorem RFr.below {base b : Nat} {w w' : World} (h : RFr base b w w') : Below base w w' := ⟨h.os, h.tape, h.output, h.size, h.low⟩

/-- A list: its struct in block b, its entries in a row of their own from base on. -/
structure Rl (base : Nat) (W : World) (b : Nat) (mo : Int) (es : Ents) : Prop where
  hb : ∃ a cap, W.heap[b]? = some (.cells #[.int .i64 mo, .slice a es.length cap] 60) ∧ W.ownsRow base 63 2 (.slice a es.length cap) es.length (rowsOf row es)
  kb : base ≤ b
section
variable {base : Nat} {W W' : World} {b : Nat} {mo : Int} {es es' : Ents}
theorem Rl.lt (h : Rl base W b mo es) : b < W.heap.size := by
  obtain ⟨a, cap, h1, _⟩ := h.hb
  exact lt_of_heap h1
theorem Rl.base_le (h : Rl base W b mo es) : base ≤ W.heap.size := by have := h.lt; have := h.kb; omega
theorem Rl.keep (h : Rl base W b mo es) (hk : ∀ (k : Nat) (cur : Array Value) (t : TypeId), W.heap[k]? = some (.cells cur t (0, 0)) → (k = b ∨ t = 63) → W'.heap[k]? = W.heap[k]?) : Rl base W' b mo es := by
  obtain ⟨a, cap, h1, h2⟩ := h.hb
  exact ⟨⟨a, cap, (hk b _ _ h1 (.inl rfl)).trans h1, own_keep h2 fun k cur hc => hk k cur 63 hc (.inr rfl)⟩, h.kb⟩
theorem Rl.below (h : Rl base W b mo es) (g : Below W.heap.size W W') : Rl base W' b mo es := h.keep fun k _ _ hk _ => g.block k (lt_of_heap hk)
theorem Rl.drew (h : Rl base W b mo es) : Rl base W.drew b mo es := h.keep fun _ _ _ _ _ => rfl
theorem Rl.dn (h : Rl base W b mo es) (m : Nat) : Rl base (W.drewN m) b mo es := h.keep fun _ _ _ _ _ => rfl
theorem Rl.cells (h : Rl base W b mo es) : ∃ a cap, W.cell? ⟨b, 0, none⟩ = some (.int .i64 mo) ∧ W.cell? ⟨b, 1, none⟩ = some (.slice a es.length cap) ∧ (∀ i, W.frozen? ⟨b, i, none⟩ = false) ∧ W.ownsRow base 63 2 (.slice a es.length cap) es.length (rowsOf row es) := by
  obtain ⟨a, cap, h1, h2⟩ := h.hb
  refine ⟨a, cap, ?_, ?_, frozen_of h1, h2⟩ <;> rw [cell_of h1] <;> rfl
/-- Another row of entries is stored. -/
theorem Rl.setRow {a : Option Addr} {m cap : Nat} (h : Rl base W b mo es) (own : W.ownsRow base 63 2 (.slice a m cap) m (rowsOf row es')) (hm : es'.length = m) : Rl base (W.setCell ⟨b, 1, none⟩ (.slice a m cap)) b mo es' := by
  obtain ⟨a0, cap0, h1, h2⟩ := h.hb
  subst hm
  refine ⟨⟨a, cap, ?_, own_keep own fun k cur hc => Below.heap_setCell _ _ _ _ ?_⟩, h.kb⟩
  · rw [heap_set h1]; simp
  · rintro rfl
    rw [h1] at hc
    simp at hc
end
theorem rinfo : (Try.prog.info? 63).map (fun i => (i.zero, i.size, i.bytes)) = some (some (.agg #[.string ByteArray.empty, .int .i64 0]), 2, 24) := by kernel_rfl
theorem Rl.gb {base : Nat} {W : World} {b g : Nat} {mo : Int} {es : Ents} {m cap : Nat} (h : Rl base W b mo es) (own : W.ownsRow base 63 2 (.slice (some ⟨g, 0, none⟩) m cap) m (rowsOf row es)) : g ≠ b ∧ base ≤ g ∧ g < W.heap.size ∧ ∃ cur, W.heap[g]? = some (.cells cur 63) := by
  obtain ⟨_, ⟨e0, _⟩ | ⟨g', cap', cur, e0, hgb, hgg, _⟩⟩ := own
  · simp at e0
  simp only [Value.slice.injEq, Option.some.injEq, Addr.mk.injEq] at e0
  obtain ⟨⟨rfl, -, -⟩, -, rfl⟩ := e0
  refine ⟨?_, hgb, lt_of_heap hgg, cur, hgg⟩
  rintro rfl
  obtain ⟨_, _, q1, _⟩ := h.hb
  rw [q1] at hgg; simp at hgg
theorem Rl.setPin {base : Nat} {W : World} {b g : Nat} {mo : Int} {es : Ents} {cap i : Nat} {k : ByteArray} {v x : Int} (h : Rl base W b mo es) (a1 : W.cell? ⟨b, 1, none⟩ = some (.slice (some ⟨g, 0, none⟩) es.length cap)) (hi : es[i]? = some (k, v)) : Rl base (W.setCell ⟨g, i * 2 + 1, none⟩ (.int .i64 x)) b mo (es.set i (k, x)) := by
  obtain ⟨a, cap', h1, own⟩ := h.hb
  have e1 : W.cell? ⟨b, 1, none⟩ = some (.slice a es.length cap') := by rw [cell_of h1]; rfl
  rw [a1] at e1
  simp only [Option.some.injEq, Value.slice.injEq] at e1
  obtain ⟨rfl, -, rfl⟩ := e1
  have hl := (List.getElem?_eq_some_iff.1 hi).1
  obtain ⟨hgb, _⟩ := h.gb own
  refine ⟨⟨some ⟨g, 0, none⟩, cap, ?_, ?_⟩, h.kb⟩
  · rw [Below.heap_setCell _ _ _ _ (Ne.symm hgb), List.length_set]; exact h1
  · obtain ⟨h0, ⟨e0, _⟩ | ⟨g', cap', cur, e0, hgb, hgg, hcap, hcm, hcs, htk⟩⟩ := own
    · simp at e0
    simp only [Value.slice.injEq, Option.some.injEq, Addr.mk.injEq] at e0
    obtain ⟨⟨rfl, -, -⟩, -, rfl⟩ := e0
    have hr := rowsOf_set row 2 row_length es i 1 (k, v) (k, x) (.int .i64 x) hi (by omega) rfl
    refine ⟨by rw [rows_len], .inr ⟨g, cap, _, by rw [List.length_set], hgb, heap_set hgg _ _, by rw [List.length_set]; exact hcap, hcm, by simpa using hcs, ?_⟩⟩
    rw [← hr, List.length_set, ← htk, Array.toList_setIfInBounds, List.take_set, show 2 * i + 1 = i * 2 + 1 by omega]
theorem RFr.setG {base b g : Nat} {u w : World} {cur : Array Value} (h : RFr base b u w) (hg : w.heap[g]? = some (.cells cur 63)) (hb : base ≤ g) (i : Nat) (v : Value) : RFr base b u (w.setCell ⟨g, i, none⟩ v) :=
  h.trans ⟨rfl, rfl, rfl, by simp [World.setCell], fun k hk => Below.heap_setCell _ _ _ _ (by simp; omega), fun k o h1 _ h3 => (Below.heap_setCell _ _ _ _ (by rintro rfl; rw [hg] at h1; exact h3 _ (Option.some.inj h1).symm)).trans h1⟩

/-- One entry more, behind the others. -/
theorem rpush_run {base : Nat} {X : World} {b : Nat} {mo : Int} {es : Ents} (k : ByteArray) (v : Int) (L : Rl base X b mo es) (hl : es.length ≤ 1000) {a : Option Addr} {m cap : Nat} (a1 : X.cell? ⟨b, 1, none⟩ = some (.slice a m cap)) :
    ∃ (a' : Option Addr) (cap' : Nat) (W5 : World), (Builtin.append_ #[58, 58] 58 #[.slice a m cap, .slice (some ⟨X.heap.size, 0, none⟩) 1 1]).run Try.prog (X.alloc (.cells #[.string k, .int .i64 v] 63)) = .ok (.slice a' (m + 1) cap') W5 ∧
      W5.cell? ⟨b, 1, none⟩ = some (.slice a m cap) ∧ W5.frozen? ⟨b, 1, none⟩ = false ∧ Rl base (W5.setCell ⟨b, 1, none⟩ (.slice a' (m + 1) cap')) b mo (es ++ [(k, v)]) ∧ RFr base b X (W5.setCell ⟨b, 1, none⟩ (.slice a' (m + 1) cap')) := by
  obtain ⟨i0, hi, hz0, hz1, hz2⟩ := info_parts rinfo
  obtain ⟨a2, cap2, h1, own⟩ := L.hb
  have e1 : X.cell? ⟨b, 1, none⟩ = some (.slice a2 es.length cap2) := by rw [cell_of h1]; rfl
  rw [a1] at e1
  simp only [Option.some.injEq, Value.slice.injEq] at e1
  obtain ⟨rfl, rfl, rfl⟩ := e1
  have own5 := own_keep (W' := X.alloc (.cells #[.string k, .int .i64 v] 63)) own (fun k cur hc => Below.heap_alloc X _ _ (lt_of_heap hc))
  obtain ⟨v', W5, hrun, own7, hgr, -, -⟩ := run_append_own_at (P := Try.prog) (X.alloc (.cells #[.string k, .int .i64 v] 63)) base 58 58 63 i0 _ 2 24 Try.underlying58 hi hz0 hz1 hz2 rfl (by decide) (.slice a es.length cap) _ _ own5 ⟨X.heap.size, 0, none⟩ 1 1 (row (k, v)) rfl (cells_new X (row (k, v)) 63) (by intro u hu; simp [row] at hu; rcases hu with rfl | rfl <;> rfl) (by unfold maxLen; omega) (by omega) (by simp; have := L.base_le; omega)
  obtain ⟨a', cap', rfl⟩ := own_form own7
  have hbA : (X.alloc (.cells #[.string k, .int .i64 v] 63)).heap[b]? = some (.cells #[.int .i64 mo, .slice a es.length cap] 60) := (Below.heap_alloc _ _ _ L.lt).trans h1
  have hb5 : W5.heap[b]? = some (.cells #[.int .i64 mo, .slice a es.length cap] 60) := (hgr.block b (lt_of_heap hbA) (own_ne own5 hbA (by simp))).trans hbA
  have hself : ∀ j, j ≠ b → (W5.setCell ⟨b, 1, none⟩ (.slice a' (es.length + 1) cap')).heap[j]? = W5.heap[j]? := fun j hj => Below.heap_setCell _ _ _ _ hj
  refine ⟨a', cap', W5, hrun, by rw [cell_of hb5]; rfl, frozen_of hb5 1, ⟨⟨a', cap', ?_, ?_⟩, L.kb⟩, ?_⟩
  · rw [heap_set hb5]; simp
  · rw [List.length_append, rowsOf_append]
    refine own_keep own7 fun j cur hc => hself j ?_
    rintro rfl
    rw [hb5] at hc
    simp at hc
  · have b1 : Below base X (X.alloc (.cells #[.string k, .int .i64 v] 63)) := ((Below.refl _ X).alloc (Nat.le_refl _) _).mono L.base_le
    have b2 := below_grown b1 own5 hgr (by simp; have := L.base_le; omega)
    refine ⟨b2.os, b2.tape, b2.output, by have := b2.size; simp [World.setCell]; omega, fun j hj => (hself j (by have := L.kb; omega)).trans (b2.block j hj), fun j o g1 g2 g3 => ?_⟩
    have hkA : (X.alloc (.cells #[.string k, .int .i64 v] 63)).heap[j]? = some o := (Below.heap_alloc _ _ _ (lt_of_heap g1)).trans g1
    rw [hself j g2, hgr.block j (lt_of_heap hkA) (own_ne own5 hkA g3), hkA]


theorem own_cells {base : Nat} {W : World} {e : TypeId} {g l cap n s : Nat} {xs : List Value} (h : W.ownsRow base e s (.slice (some ⟨g, 0, none⟩) l cap) n xs) :
    ∀ (j : Nat) (u : Value), xs[j]? = some u → W.cell? ⟨g, j, none⟩ = some u := by
  obtain ⟨hl, ⟨h1, hz⟩ | ⟨g', cap', cur, h1, hgb, hgg, hcap, hcm, hcs, htk⟩⟩ := h
  · simp at h1
  · simp only [Value.slice.injEq, Option.some.injEq, Addr.mk.injEq] at h1
    obtain ⟨⟨rfl, -, -⟩, rfl, rfl⟩ := h1
    intro j u hj
    have hj2 := (List.getElem?_eq_some_iff.1 hj).1
    rw [cell_of hgg, ← hj, ← htk, List.getElem?_take_of_lt (by omega)]
    simp
theorem addr_add0 (b off i : Nat) : (⟨b, off, none⟩ : Addr).add i = ⟨b, off + i, none⟩ := by unfold Addr.add; split <;> simp_all
theorem erase_run (base : Nat) (V : World) (g cap l k : Nat) (xs : Ents) (hO : V.ownsRow base 63 2 (.slice (some ⟨g, 0, none⟩) l cap) l (rowsOf row xs)) (hl : xs.length = l) (hk : k < l) (h64 : l ≤ 1000) (hb : base ≤ V.heap.size) (hg : g < V.heap.size) (p2 : Addr) (hp : k + 1 < l → p2 = ⟨g, (k + 1) * 2, none⟩) :
    ∃ (v1 v2 : Value) (W1 W2 : World),
      (Builtin.append_ #[58, 58] 58 #[.slice (some ⟨V.heap.size, 0, none⟩) 0 0, .slice (some ⟨g, 0, none⟩) k cap]).run Try.prog (V.alloc (.cells #[] 63)).drew = .ok v1 W1 ∧
      (Builtin.append_ #[58, 58] 58 #[v1, .slice (some p2) (l - (k + 1)) (cap - (k + 1))]).run Try.prog W1 = .ok v2 W2 ∧
      W2.ownsRow base 63 2 v2 (era xs k).length (rowsOf row (era xs k)) ∧ Below V.heap.size V W2 ∧ (∀ j, v2.ownBlock = some j → V.heap.size ≤ j) ∧ Below V.heap.size V W1 := by
  obtain ⟨i0, hi, hz0, hz1, hz2⟩ := info_parts rinfo
  have hce := own_cells hO
  have own0 : (V.alloc (.cells #[] 63)).drew.ownsRow base 63 2 (.slice (some ⟨V.heap.size, 0, none⟩) 0 0) 0 [] :=
    ⟨rfl, .inr ⟨V.heap.size, 0, #[], rfl, hb, putAll (w := V) (.cells #[] 63) V.heap.size rfl, Nat.le_refl _, by unfold maxLen; omega, rfl, rfl⟩⟩
  have hB0 : Below V.heap.size V (V.alloc (.cells #[] 63)).drew := ((Below.refl _ V).alloc (Nat.le_refl _) _).drew
  obtain ⟨v1, W1, r1, own1, gr1, -, at1⟩ := run_append_own_at (P := Try.prog) (V.alloc (.cells #[] 63)).drew base 58 58 63 i0 (.agg #[.string ByteArray.empty, .int .i64 0]) 2 24 Try.underlying58 hi hz0 hz1 hz2 rfl (by decide) _ 0 [] own0 ⟨g, 0, none⟩ k cap (rowsOf row (xs.take k))
    (by rw [rows_len]; simp; omega)
    (by
      intro j u hj
      rw [addr_add0, Nat.zero_add]
      refine (hB0.cell (p := ⟨g, j, none⟩) hg).trans (hce j u ?_)
      have hj2 := (List.getElem?_eq_some_iff.1 hj).1
      rw [rows_take] at hj hj2
      rwa [List.getElem?_take_of_lt (by simp at hj2; omega)] at hj)
    (rows_one _) (by unfold maxLen; omega) (by omega) (by simp; omega)
  have hs1 : V.heap.size < W1.heap.size := by have := gr1.size; simp at this; omega
  have hB1 : Below V.heap.size V W1 := by
    refine hB0.trans ⟨gr1.os, gr1.tape, gr1.output, gr1.size, fun j hj => gr1.block j (by simp; omega) ?_⟩
    simp only [Value.ownBlock, ne_eq, Option.some.injEq]; omega
  have hb1 : ∀ j, v1.ownBlock = some j → V.heap.size ≤ j := by
    intro j hj
    rcases at1 with e | e <;> rw [e] at hj <;> simp [Value.ownBlock] at hj <;> omega
  obtain ⟨v2, W2, r2, own2, gr2, -, at2⟩ := run_append_own_at (P := Try.prog) W1 base 58 58 63 i0 (.agg #[.string ByteArray.empty, .int .i64 0]) 2 24 Try.underlying58 hi hz0 hz1 hz2 rfl (by decide) v1 _ _ own1 p2 (l - (k + 1)) (cap - (k + 1)) (rowsOf row (xs.drop (k + 1)))
    (by rw [rows_len]; simp; omega)
    (by
      intro j u hj
      have hj2 := (List.getElem?_eq_some_iff.1 hj).1
      have hkl : k + 1 < l := by rw [rows_len] at hj2; simp at hj2; omega
      rw [hp hkl, addr_add0]
      refine (hB1.cell (p := ⟨g, (k + 1) * 2 + j, none⟩) hg).trans (hce _ u ?_)
      rw [rows_drop, List.getElem?_drop] at hj
      exact hj)
    (rows_one _) (by unfold maxLen; omega) (by omega) (by omega)
  refine ⟨v1, v2, W1, W2, r1, r2, ?_, ?_, ?_, hB1⟩
  · have e1 : (xs.take k ++ xs.drop (k + 1)).length = 0 + k + (l - (k + 1)) := by simp; omega
    unfold era
    rw [e1, rowsOf_append]
    simpa using own2
  · refine hB1.trans ⟨gr2.os, gr2.tape, gr2.output, gr2.size, fun j hj => gr2.block j (by omega) ?_⟩
    intro e
    have := hb1 j e.symm
    omega
  · intro j hj
    rcases at2 with e | e
    · rw [e] at hj; exact hb1 j hj
    · rw [e] at hj; simp at hj; omega
end Go.Proofs.Ytjcjibjagjiedaa
