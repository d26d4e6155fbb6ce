/-
  What both tables are asked behind each call: each question by one contract.
-/
import Derived.Test.YtocaonbmijmbmaaPlaysA
namespace Go.Proofs.Ytocaonbmijmbmaa
open Go.RowKit Go.Shelf

/-- Both tables, the call, and what Get of both answered. -/
structure PG (B b r n : Nat) (w W : World) (es : List Op) (y u v : Nat) (kd p d f s m k a0 a1 a2 a3 : Int) : Prop where
  pw : PW B b r n w W es
  hy : W.heap[y]? = some (askO kd p d f s m k)
  hu : W.heap[u]? = some (.cells #[I a0, I a1, I a2, I a3] 34)
  hv : W.heap[v]? = some (.cells #[I a0, I a1, I a2, I a3] 50)
section
variable {B b r n : Nat} {w W W' : World} {es : List Op} {y u v : Nat} {kd p d f s m k a0 a1 a2 a3 : Int}
theorem PG.below (h : PG B b r n w W es y u v kd p d f s m k a0 a1 a2 a3) (g : Below W.heap.size W W') : PG B b r n w W' es y u v kd p d f s m k a0 a1 a2 a3 :=
  ⟨h.pw.below g, (g.block y (lt_of_heap h.hy)).trans h.hy, (g.block u (lt_of_heap h.hu)).trans h.hu, (g.block v (lt_of_heap h.hv)).trans h.hv⟩
/-- The cells that are read. -/
def PC (W : World) (y u v : Nat) (p m a0 a1 a2 a3 : Int) : Prop :=
  W.cell? ⟨y, 1, none⟩ = some (I p) ∧ W.cell? ⟨y, 5, none⟩ = some (I m) ∧ W.cell? ⟨u, 0, none⟩ = some (I a0) ∧ W.cell? ⟨u, 1, none⟩ = some (I a1) ∧ W.cell? ⟨u, 2, none⟩ = some (I a2) ∧ W.cell? ⟨u, 3, none⟩ = some (I a3) ∧
    W.cell? ⟨v, 0, none⟩ = some (I a0) ∧ W.cell? ⟨v, 1, none⟩ = some (I a1) ∧ W.cell? ⟨v, 2, none⟩ = some (I a2) ∧ W.cell? ⟨v, 3, none⟩ = some (I a3)
theorem PG.cells (h : PG B b r n w W es y u v kd p d f s m k a0 a1 a2 a3) : PC W y u v p m a0 a1 a2 a3 := by
  obtain ⟨y0, y1, y2, y3, y4, y5, y6⟩ := cells7 h.hy
  obtain ⟨u0, u1, u2, u3⟩ := cells4 h.hu
  obtain ⟨v0, v1, v2, v3⟩ := cells4 h.hv
  exact ⟨y1, y5, u0, u1, u2, u3, v0, v1, v2, v3⟩
theorem g_room (H : Hid (PG B b r n w W es y u v kd p d f s m k a0 a1 a2 a3)) : Calls Try.prog 20 #[.pointer (some ⟨b, 0, none⟩), I p] W fun e w' => e = .returned (I (roomE es n p)) ∧ PC w' y u v p m a0 a1 a2 a3 ∧ Hid (PG B b r n w w' es y u v kd p d f s m k a0 a1 a2 a3) := by
  have h : PG B b r n w W es y u v kd p d f s m k a0 a1 a2 a3 := H
  refine (room_any b n es p W h.pw.tb).mono ?_
  rintro e w' ⟨e1, h1⟩
  exact ⟨e1, (h.below h1).cells, h.below h1⟩
theorem g_rroom (H : Hid (PG B b r n w W es y u v kd p d f s m k a0 a1 a2 a3)) : Calls Try.prog 21 #[.pointer (some ⟨r, 0, none⟩), I p] W fun e w' => e = .returned (I (roomE es n p)) ∧ PC w' y u v p m a0 a1 a2 a3 ∧ Hid (PG B b r n w w' es y u v kd p d f s m k a0 a1 a2 a3) := by
  have h : PG B b r n w W es y u v kd p d f s m k a0 a1 a2 a3 := H
  obtain ⟨F, G, hr, hl⟩ := h.pw.rt
  refine (rroom_any r n es p F G W hr hl h.pw.wf h.pw.tb.le).mono ?_
  rintro e w' ⟨e1, h1⟩
  exact ⟨e1, (h.below h1).cells, h.below h1⟩
theorem g_count (H : Hid (PG B b r n w W es y u v kd p d f s m k a0 a1 a2 a3)) : Calls Try.prog 12 #[.pointer (some ⟨b, 0, none⟩)] W fun e w' => e = .returned (I (es.length : Nat)) ∧ PC w' y u v p m a0 a1 a2 a3 ∧ Hid (PG B b r n w w' es y u v kd p d f s m k a0 a1 a2 a3) := by
  have h : PG B b r n w W es y u v kd p d f s m k a0 a1 a2 a3 := H
  refine (count_any b n es.length es W h.pw.tb rfl).mono ?_
  rintro e w' ⟨e1, rfl⟩
  exact ⟨e1, h.cells, h⟩
theorem g_rcount (H : Hid (PG B b r n w W es y u v kd p d f s m k a0 a1 a2 a3)) : Calls Try.prog 22 #[.pointer (some ⟨r, 0, none⟩)] W fun e w' => e = .returned (I (es.length : Nat)) ∧ PC w' y u v p m a0 a1 a2 a3 ∧ Hid (PG B b r n w w' es y u v kd p d f s m k a0 a1 a2 a3) := by
  have h : PG B b r n w W es y u v kd p d f s m k a0 a1 a2 a3 := H
  obtain ⟨F, G, hr, hl⟩ := h.pw.rt
  refine (rcount_any r n F G W hr).mono ?_
  rintro e w' ⟨e1, rfl⟩
  rw [hl.count h.pw.wf] at e1
  exact ⟨e1, h.cells, h⟩
theorem g_in (H : Hid (PG B b r n w W es y u v kd p d f s m k a0 a1 a2 a3)) : Calls Try.prog 13 #[.pointer (some ⟨b, 0, none⟩), I m] W fun e w' => e = .returned (I (es.countP (isMt m) : Nat)) ∧ PC w' y u v p m a0 a1 a2 a3 ∧ Hid (PG B b r n w w' es y u v kd p d f s m k a0 a1 a2 a3) := by
  have h : PG B b r n w W es y u v kd p d f s m k a0 a1 a2 a3 := H
  refine (in_any b n es m W h.pw.tb).mono ?_
  rintro e w' ⟨e1, h1⟩
  exact ⟨e1, (h.below h1).cells, h.below h1⟩
theorem g_rin (H : Hid (PG B b r n w W es y u v kd p d f s m k a0 a1 a2 a3)) : Calls Try.prog 23 #[.pointer (some ⟨r, 0, none⟩), I m] W fun e w' => e = .returned (I (es.countP (isMt m) : Nat)) ∧ PC w' y u v p m a0 a1 a2 a3 ∧ Hid (PG B b r n w w' es y u v kd p d f s m k a0 a1 a2 a3) := by
  have h : PG B b r n w W es y u v kd p d f s m k a0 a1 a2 a3 := H
  obtain ⟨F, G, hr, hl⟩ := h.pw.rt
  refine (rin_any r n m F G W hr).mono ?_
  rintro e w' ⟨e1, rfl⟩
  rw [hl.inn h.pw.wf] at e1
  exact ⟨e1, h.cells, h⟩
/-- Get of both, while the call lies in y. -/
theorem get_1 (h : PW B b r n w W es) (hy : W.heap[y]? = some (askO kd p d f s m k)) {m' k' f' s' E : Int} (hm : (getV es p d).m = m') (hk : (getV es p d).n = k') (hf : (getV es p d).f = f') (hs : (getV es p d).s = s') (hE : findE es p d = E) :
    Calls Try.prog 11 #[.pointer (some ⟨b, 0, none⟩), I p, I d] W fun e w' => e = .returned (.tuple #[.agg #[I m', I k', I f', I s'], I E]) ∧ Hid (PW B b r n w w' es) ∧ w'.heap[y]? = some (askO kd p d f s m k) := by
  subst hm hk hf hs hE
  refine (get_any b n es p d W h.tb).mono ?_
  rintro e w' ⟨e1, h1⟩
  exact ⟨e1, h.below h1, (h1.block y (lt_of_heap hy)).trans hy⟩
theorem get_2 (h : PW B b r n w W es) (hy : W.heap[y]? = some (askO kd p d f s m k)) {u : Nat} {o : Obj} (hu : W.heap[u]? = some o) {m' k' f' s' E : Int} (hm : (getV es p d).m = m') (hk : (getV es p d).n = k') (hf : (getV es p d).f = f') (hs : (getV es p d).s = s') (hE : findE es p d = E) :
    Calls Try.prog 19 #[.pointer (some ⟨r, 0, none⟩), I p, I d] W fun e w' => e = .returned (.tuple #[.agg #[I m', I k', I f', I s'], I E]) ∧ Hid (PW B b r n w w' es) ∧ w'.heap[y]? = some (askO kd p d f s m k) ∧ w'.heap[u]? = some o := by
  subst hm hk hf hs hE
  obtain ⟨F, G, hr, hl⟩ := h.rt
  refine (rget_any r n es p d F G W hr hl h.wf).mono ?_
  rintro e w' ⟨e1, h1⟩
  exact ⟨e1, h.below h1, (h1.block y (lt_of_heap hy)).trans hy, (h1.block u (lt_of_heap hu)).trans hu⟩
end
end Go.Proofs.Ytocaonbmijmbmaa
