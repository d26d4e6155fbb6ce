/-
  FilePlaces: the table, and the row in which the law keeps what it opened.
-/
import Derived.Test.YtocaonbmijmbmaaWf
import Derived.Test.YtocaonbmijmbmaaKnown
import Derived.Test.YtocaonbmijmbmaaIn
import Derived.Maps.AppendAt
import Derived.OwnWalk
namespace Go.Proofs.Ytocaonbmijmbmaa
open Go.RowKit Go.Shelf

theorem own_ne {W : World} {base : Nat} {e : TypeId} {s n k : Nat} {v : Value} {xs : List Value} {o : Obj} (h : W.ownsRow base e s v n xs) (ho : W.heap[k]? = some o) (hne : ∀ cur, o ≠ .cells cur e (0, 0)) : some k ≠ v.ownBlock := by
  obtain ⟨-, ⟨rfl, hz⟩ | ⟨g, cap, cur, rfl, hgb, hgg, hcap, hcm, hcs, htk⟩⟩ := h
  · simp [Value.ownBlock]
  · simp only [Value.ownBlock, ne_eq, Option.some.injEq]
    rintro rfl
    rw [hgg] at ho
    exact hne cur (Option.some.inj ho).symm
theorem own_keep {W W' : World} {base : Nat} {e : TypeId} {s n : Nat} {v : Value} {xs : List Value} (h : W.ownsRow base e s v n xs) (hb : ∀ (k : Nat) (cur : Array Value), W.heap[k]? = some (Obj.cells cur e (0, 0)) → W'.heap[k]? = W.heap[k]?) : W'.ownsRow base e s v n xs := by
  obtain ⟨h0, h1⟩ := h
  refine ⟨h0, ?_⟩
  rcases h1 with h1 | ⟨g, cap, cur, h1, h2, h3, h4⟩
  · exact .inl h1
  · exact .inr ⟨g, cap, cur, h1, h2, (hb g cur h3).trans h3, h4⟩
theorem own_form {W : World} {base : Nat} {e : TypeId} {s n : Nat} {v : Value} {xs : List Value} (h : W.ownsRow base e s v n xs) : ∃ a cap, v = .slice a n cap := by
  obtain ⟨-, ⟨rfl, hz⟩ | ⟨g, cap, cur, rfl, _⟩⟩ := h
  · exact ⟨none, 0, by rw [hz]⟩
  · exact ⟨_, _, rfl⟩
theorem own_open {W : World} {base : Nat} {e : TypeId} {s n : Nat} {v : Value} {xs : List Value} (h : W.ownsRow base e s v n xs) (hn : n ≠ 0) :
    ∃ g cap cur, v = .slice (some ⟨g, 0, none⟩) n cap ∧ base ≤ g ∧ W.heap[g]? = some (.cells cur e) ∧ n ≤ cap ∧ cap ≤ maxLen ∧ cur.size = cap * s ∧ ∀ (j : Nat) (u : Value), xs[j]? = some u → W.cell? ⟨g, j, none⟩ = some u := by
  obtain ⟨hl, ⟨rfl, hz⟩ | ⟨g, cap, cur, rfl, hgb, hgg, hcap, hcm, hcs, htk⟩⟩ := h
  · exact absurd hz hn
  · refine ⟨g, cap, cur, rfl, hgb, hgg, hcap, hcm, hcs, fun j u hj => ?_⟩
    have hj2 := (List.getElem?_eq_some_iff.1 hj).1
    rw [cell_of hgg, ← hj, ← htk, List.getElem?_take_of_lt (by omega)]
    simp

theorem own_base {W : World} {base base' : Nat} {e : TypeId} {s n : Nat} {v : Value} {xs : List Value} (h : W.ownsRow base' e s v n xs) (hb : base ≤ base') : W.ownsRow base e s v n xs := by
  obtain ⟨h0, h1 | ⟨g, cap, cur, h1, h2, h3⟩⟩ := h
  · exact ⟨h0, .inl h1⟩
  · exact ⟨h0, .inr ⟨g, cap, cur, h1, Nat.le_trans hb h2, h3⟩⟩
theorem own_addr {W : World} {base : Nat} {e : TypeId} {s n m cap : Nat} {a : Option Addr} {xs : List Value} (h : W.ownsRow base e s (.slice a m cap) n xs) : ∃ g, (a = none ∧ m = 0 ∧ cap = 0) ∨ a = some ⟨g, 0, none⟩ := by
  obtain ⟨-, ⟨e1, hz⟩ | ⟨g, cap', cur, e1, _⟩⟩ := h
  · simp only [Value.slice.injEq] at e1; obtain ⟨rfl, rfl, rfl⟩ := e1; exact ⟨0, .inl ⟨rfl, rfl, rfl⟩⟩
  · simp only [Value.slice.injEq] at e1; obtain ⟨rfl, rfl, rfl⟩ := e1; exact ⟨g, .inr rfl⟩
theorem below_grown {base : Nat} {w W W' : World} {e : TypeId} {s n : Nat} {v : Value} {xs : List Value} (hB : Below base w W) (h : W.ownsRow base e s v n xs) (g : W.grownBy W' v.ownBlock) (hb : base ≤ W.heap.size) : Below base w W' := by
  refine ⟨g.os.trans hB.os, g.tape.trans hB.tape, g.output.trans hB.output, ?_, ?_⟩
  · have := g.size; have := hB.size; omega
  · intro k hk
    have h1 : some k ≠ v.ownBlock := by
      intro e
      obtain ⟨-, ⟨rfl, _⟩ | ⟨g', cap, cur, rfl, hgb, _⟩⟩ := h
      · simp [Value.ownBlock] at e
      · simp [Value.ownBlock] at e; omega
    rw [g.block k (by omega) h1]
    exact hB.block k hk


theorem rows_len (es : List Op) : (rowsOf Op.row es).length = es.length * 6 := by rw [rowsOf_length Op.row 6 Op.row_length, Nat.mul_comm]
theorem rows_at (es : List Op) (i : Nat) (p : Op) (h : es[i]? = some p) : (rowsOf Op.row es)[i * 6]? = some (I p.p) ∧ (rowsOf Op.row es)[i * 6 + 1]? = some (I p.d) ∧ (rowsOf Op.row es)[i * 6 + 2]? = some (I p.m) ∧ (rowsOf Op.row es)[i * 6 + 3]? = some (I p.n) ∧ (rowsOf Op.row es)[i * 6 + 4]? = some (I p.f) ∧ (rowsOf Op.row es)[i * 6 + 5]? = some (I p.s) := by
  have e := fun f hf => rowsOf_get Op.row 6 Op.row_length es i f p h hf
  rw [show i * 6 = 6 * i + 0 by omega, show 6 * i + 0 + 1 = 6 * i + 1 by omega, show 6 * i + 0 + 2 = 6 * i + 2 by omega, show 6 * i + 0 + 3 = 6 * i + 3 by omega, show 6 * i + 0 + 4 = 6 * i + 4 by omega, show 6 * i + 0 + 5 = 6 * i + 5 by omega]
  exact ⟨e 0 (by omega), e 1 (by omega), e 2 (by omega), e 3 (by omega), e 4 (by omega), e 5 (by omega)⟩
theorem rowsOf_append {α : Type} (r : α → List Value) (xs ys : List α) : rowsOf r (xs ++ ys) = rowsOf r xs ++ rowsOf r ys := by simp [rowsOf]

/-- The table in block b; what the law keeps in the row hv. -/
structure HW (B b : Nat) (w W : World) (es : List Op) (hv : Value) (hs : List Op) : Prop where
  tb : Tb W b 64 es
  own : W.ownsRow B 60 6 hv hs.length (rowsOf Op.row hs)
  wf : Wf es
  be : Below B w W
  lo : B ≤ b
section
variable {B b : Nat} {w W W' : World} {es es' hs : List Op} {hv : Value}
theorem HW.sz (h : HW B b w W es hv hs) : B ≤ W.heap.size := by have := h.tb.lt; have := h.lo; omega
theorem HW.below (h : HW B b w W es hv hs) (f : Below W.heap.size W W') : HW B b w W' es hv hs :=
  ⟨h.tb.below f, own_keep h.own (fun k _ hc => f.block k (lt_of_heap hc)), h.wf, h.be.trans (f.mono h.sz), h.lo⟩
theorem HW.drew (h : HW B b w W es hv hs) : HW B b w W.drew es hv hs := h.below (below_d (Below.refl _ _))
theorem HW.tne (h : HW B b w W es hv hs) {k : Nat} {cur : Array Value} (hc : W.heap[k]? = some (Obj.cells cur 60 (0, 0))) : k ≠ b := by
  rintro rfl
  obtain ⟨r, hr, -⟩ := h.tb.hb
  rw [hc] at hr
  simp at hr
theorem HW.call (h : HW B b w W es hv hs) (t : Tb W' b 64 es') (f : Fr b W W') (wf : Wf es') : HW B b w W' es' hv hs :=
  ⟨t, own_keep h.own (fun k _ hc => f.block k (lt_of_heap hc) (h.tne hc)), wf, h.be.trans (f.below h.lo h.sz), h.lo⟩
theorem HW.form (h : HW B b w W es hv hs) : ∃ a cap, hv = .slice a hs.length cap := own_form h.own
theorem HW.at (h : HW B b w W es hv hs) {i : Nat} {o : Op} (hi : hs[i]? = some o) : ∃ g cap, hv = .slice (some ⟨g, 0, none⟩) hs.length cap ∧ g < W.heap.size ∧
    (W.cell? ⟨g, i * 6, none⟩ = some (I o.p) ∧ W.cell? ⟨g, i * 6 + 1, none⟩ = some (I o.d) ∧ W.cell? ⟨g, i * 6 + 2, none⟩ = some (I o.m) ∧ W.cell? ⟨g, i * 6 + 3, none⟩ = some (I o.n) ∧ W.cell? ⟨g, i * 6 + 4, none⟩ = some (I o.f) ∧ W.cell? ⟨g, i * 6 + 5, none⟩ = some (I o.s)) ∧ (∀ j, W.frozen? ⟨g, j, none⟩ = false) := by
  have h1 := (List.getElem?_eq_some_iff.1 hi).1
  obtain ⟨g, cap, cur, e1, _, hg, _, _, _, hx⟩ := own_open h.own (by omega)
  obtain ⟨p0, p1, p2, p3, p4, p5⟩ := rows_at hs i o hi
  exact ⟨g, cap, e1, lt_of_heap hg, ⟨hx _ _ p0, hx _ _ p1, hx _ _ p2, hx _ _ p3, hx _ _ p4, hx _ _ p5⟩, frozen_of hg⟩
theorem info60 : (Try.prog.info? 60).map (fun i => (i.zero, i.size, i.bytes)) = some (some (.agg #[I 0, I 0, I 0, I 0, I 0, I 0]), 6, 48) := by kernel_rfl
/-- One more. -/
theorem HW.push (h : HW B b w W es hv hs) (hl : hs.length ≤ 1000) {a : Nat} (o : Op) (ha : W.heap[a]? = some (.cells #[I o.p, I o.d, I o.m, I o.n, I o.f, I o.s] 60)) :
    ∃ hv' W', (Builtin.append_ #[58, 58] 58 #[hv, .slice (some ⟨a, 0, none⟩) 1 1]).run Try.prog W = .ok hv' W' ∧ HW B b w W' es hv' (hs ++ [o]) := by
  obtain ⟨i0, hi, hz0, hz1, hz2⟩ := info_parts info60
  obtain ⟨v', W5, hrun, own7, hgr, -, -⟩ := run_append_own_at (P := Try.prog) W B 58 58 60 i0 _ 6 48 Try.underlying58 hi hz0 hz1 hz2 rfl (by decide) hv _ _ h.own ⟨a, 0, none⟩ 1 1 (Op.row o) rfl
    (by intro j u hj; rw [Addr.add_lit, cell_of ha]; simpa [Op.row] using hj) (by intro u hu; simp [Op.row] at hu; rcases hu with rfl | rfl | rfl | rfl | rfl | rfl <;> rfl) (by unfold maxLen; omega) (by omega) h.sz
  refine ⟨v', W5, hrun, ?_, ?_, h.wf, below_grown h.be h.own hgr h.sz, h.lo⟩
  · obtain ⟨r, hr, hl2⟩ := h.tb.hb
    exact h.tb.of (hgr.block b h.tb.lt (own_ne h.own hr (by simp)))
  · rw [List.length_append, rowsOf_append]
    simpa [rowsOf] using own7
/-- Where one of them is gone on with is told anew. -/
theorem HW.pos {g cap : Nat} (h : HW B b w W es (.slice (some ⟨g, 0, none⟩) hs.length cap) hs) {i : Nat} {o : Op} (hi : hs[i]? = some o) (s : Int) :
    HW B b w (W.setCell ⟨g, i * 6 + 5, none⟩ (I s)) es (.slice (some ⟨g, 0, none⟩) hs.length cap) (hs.set i { o with s := s }) := by
  have hin := (List.getElem?_eq_some_iff.1 hi).1
  obtain ⟨hl0, ⟨e0, _⟩ | ⟨g', cap', cur, e0, hgb, hgg, hcap, hcm, hcs, htk⟩⟩ := h.own
  · simp at e0
  simp only [Value.slice.injEq, Option.some.injEq, Addr.mk.injEq] at e0
  obtain ⟨⟨rfl, -, -⟩, -, rfl⟩ := e0
  have hne := h.tne hgg
  refine ⟨h.tb.of (Below.heap_setCell _ _ _ _ (Ne.symm hne)), ⟨?_, .inr ⟨g, cap, _, by rw [List.length_set], hgb, heap_set hgg _ _, by rw [List.length_set]; exact hcap, hcm, by simpa using hcs, ?_⟩⟩, h.wf, h.be.setCell (p := ⟨g, i * 6 + 5, none⟩) hgb _, h.lo⟩
  · rw [rows_len, List.length_set]
  · have s5 := rowsOf_set Op.row 6 Op.row_length hs i 5 o { o with s := s } (I s) hi (by omega) rfl
    rw [← s5, Array.toList_setIfInBounds, List.take_set, List.length_set, htk, show i * 6 + 5 = 6 * i + 5 by omega]
end
end Go.Proofs.Ytocaonbmijmbmaa
