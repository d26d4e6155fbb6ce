/-
  The contract of Ops.
-/
import Derived.Test.YtlokihpegllddaaHD
import Derived.WalkMore
namespace Go.Proofs.Ytlokihpegllddaa.Cl
open Go.RowKit Go.Shelf
attribute [local go_sem ↓] Go.wp_at_zero Go.wp_at_succ

/-- How long what an event holds may be. -/
structure Sm (x : Em) : Prop where
  p : x.e.c.path.length ≤ 140737488355328
  q : x.e.c.dst.length ≤ 140737488355328
  d : x.e.c.data.length ≤ 140737488355328
  r : x.e.r.data.length ≤ 140737488355328
  n : x.e.r.names.length * 16 ≤ 140737488355328
  t : ∀ s ∈ x.e.r.names, s.length ≤ 140737488355328
theorem info40 : (Try.prog.info? 40).map (fun i => (i.zero, i.size, i.bytes)) = some (some (.agg Z23), 23, 248) := by kernel_rfl
theorem info49 : (Try.prog.info? 49).map (fun i => (i.zero, i.size, i.bytes)) = some (some (.agg Z23), 23, 248) := by kernel_rfl
theorem Ow.new40 {W : World} {h : Nat} {v : Value} {xs : List Om} (q : Ow 40 W h v xs) (hb : h ≤ W.heap.size) (x : Om) (hx : Og W h x) (hl : xs.length ≤ 1000000000) :
    ∃ v' W', (Builtin.append_ #[22, 22] 22 #[v, .slice (some ⟨W.heap.size, 0, none⟩) 1 1]).run Try.prog (W.alloc (.cells x.cs 40)) = .ok v' W' ∧ Ow 40 W' h v' (xs ++ [x]) ∧ Kt h W W' ∧ ∀ k, k < W.heap.size → v.ownBlock ≠ some k → W'.heap[k]? = W.heap[k]? := by
  obtain ⟨i, hi, hi2⟩ : ∃ i, Try.prog.info? 40 = some i ∧ (i.zero, i.size, i.bytes) = (some (.agg Z23), 23, 248) := Option.map_eq_some_iff.1 info40
  simp only [Prod.mk.injEq] at hi2
  exact Ow.new Try.underlying22 (by decide) (by decide) hi hi2.1 hi2.2.1 rfl hi2.2.2 (by decide) q hb x hx hl
theorem Ow.new49 {W : World} {h : Nat} {v : Value} {xs : List Om} (q : Ow 49 W h v xs) (hb : h ≤ W.heap.size) (x : Om) (hx : Og W h x) (hl : xs.length ≤ 1000000000) :
    ∃ v' W', (Builtin.append_ #[42, 42] 42 #[v, .slice (some ⟨W.heap.size, 0, none⟩) 1 1]).run Try.prog (W.alloc (.cells x.cs 49)) = .ok v' W' ∧ Ow 49 W' h v' (xs ++ [x]) ∧ Kt h W W' ∧ ∀ k, k < W.heap.size → v.ownBlock ≠ some k → W'.heap[k]? = W.heap[k]? := by
  obtain ⟨i, hi, hi2⟩ : ∃ i, Try.prog.info? 49 = some i ∧ (i.zero, i.size, i.bytes) = (some (.agg Z23), 23, 248) := Option.map_eq_some_iff.1 info49
  simp only [Prod.mk.injEq] at hi2
  exact Ow.new Try.underlying42 (by decide) (by decide) hi hi2.1 hi2.2.1 rfl hi2.2.2 (by decide) q hb x hx hl
/-- Which thread has which call. -/
def bz (l : List Nat) : Array Value := (l.map fun (b : Nat) => I (b : Int)).toArray
theorem bz_get {l : List Nat} {t : Nat} (h : t < l.length) : (bz l)[t]? = some (I (l.getD t 0 : Nat)) := by
  simp [bz, List.getD, h]
theorem bz_set (l : List Nat) (t b : Nat) : (bz l).setIfInBounds t (I (b : Int)) = bz (l.set t b) := by
  apply Array.toList_inj.1
  simp [bz, List.map_set]
/-- What lies while Ops goes on. -/
structure Op8 (T : TypeId) (w : World) (s : St) (xs : List Om) (v : Value) (W : World) : Prop where
  be : Below w.heap.size w W
  bz : W.heap[w.heap.size]? = some (.cells (bz s.busy) 52)
  ow : Ow T W w.heap.size v xs
  xo : xs.map (·.o) = s.ops
theorem Op8.len {T : TypeId} {w : World} {s : St} {xs : List Om} {v : Value} {W : World} (h : Op8 T w s xs v W) : xs.length = s.ops.length := by rw [← h.xo, List.length_map]
/-- Whoever lays new memory. -/
theorem Op8.on {T : TypeId} {w : World} {s : St} {xs : List Om} {v : Value} {W W' : World} (h : Op8 T w s xs v W) (g : Below W.heap.size W W') : Op8 T w s xs v W' :=
  ⟨h.be.trans (g.mono h.be.size), be_keep g h.bz, h.ow.below g h.be.size, h.xo⟩
theorem Op8.keepb {T : TypeId} (hT : T ≠ 52) {w : World} {s : St} {xs : List Om} {v : Value} {W W' : World} (h : Op8 T w s xs v W) (hW : ∀ k, k < W.heap.size → v.ownBlock ≠ some k → W'.heap[k]? = W.heap[k]?) : W'.heap[w.heap.size]? = some (.cells (Cl.bz s.busy) 52) := (hW _ (lt_of_heap h.bz) (by
    intro e1
    obtain ⟨-, -, cs, e2⟩ := h.ow.own e1
    rw [h.bz] at e2
    simp at e2
    exact hT e2.2.symm)).trans h.bz
/-- One call more, and its thread has it. -/
theorem Op8.add {T : TypeId} (hT : T ≠ 52) {w : World} {s : St} {xs : List Om} {v v' : Value} {W W' X : World} (h : Op8 T w s xs v W) (x : Om) (q : Ow T W' w.heap.size v' (xs ++ [x])) (hk : Kt w.heap.size W W') (hW : ∀ k, k < W.heap.size → v.ownBlock ≠ some k → W'.heap[k]? = W.heap[k]?)
    (k : Nat) (e : Ev) (t : Nat) (hx : x.o = ⟨(t : Int), e.c, rr0, (k : Int), -1⟩) (hX : W'.setCell ⟨w.heap.size, t, none⟩ (I ((xs.length + 1 : Nat) : Int)) = X) : Op8 T w (s.add k e t) (xs ++ [x]) v' X ∧ Gr w.heap.size W' X := by
  have hb : W'.heap[w.heap.size]? = some (.cells (Cl.bz s.busy) 52) := (hW _ (lt_of_heap h.bz) (by
    intro e1
    obtain ⟨-, -, cs, e2⟩ := h.ow.own e1
    rw [h.bz] at e2
    simp at e2
    exact hT e2.2.symm)).trans h.bz
  have gr : Gr w.heap.size W' X := hX ▸ Gr.set _ t W' _
  have hbe : Below w.heap.size w W' := h.be.trans hk.be
  refine ⟨⟨hbe.trans (gr.below (Nat.le_refl _) hbe.size), ?_, ?_, ?_⟩, gr⟩
  · rw [← hX, heap_set hb, bz_set, h.len]; rfl
  · exact q.keep (Kt.gr gr (Nat.le_refl _) hbe.size hb (by decide) (by decide)) fun b cs e1 e2 => gr.keep e1 (by
      rintro rfl
      rw [hb] at e1
      simp at e1
      exact hT e1.2.symm)
  · rw [List.map_append, h.xo]
    simp [St.add, hx]
/-- A call has returned. -/
theorem Op8.ret {T : TypeId} (hT : T ≠ 52) {w : World} {s : St} {ys : List Om} {v : Value} {W X : World} (hbe : Below w.heap.size w W) (hbz : W.heap[w.heap.size]? = some (.cells (Cl.bz s.busy) 52)) (q : Ow T W w.heap.size v ys) (k : Nat) (e : Ev) (t : Nat) (hy : ys.map (·.o) = s.ops.modify (s.busy.getD t 0 - 1) fun o => { o with r := e.r, tt := (k : Int) })
    (hX : W.setCell ⟨w.heap.size, t, none⟩ (I 0) = X) : Op8 T w (s.set k e t) ys v X := by
  have gr : Gr w.heap.size W X := hX ▸ Gr.set _ t W _
  refine ⟨hbe.trans (gr.below (Nat.le_refl _) hbe.size), ?_, ?_, hy⟩
  · rw [← hX, heap_set hbz]
    have := bz_set s.busy t 0
    simp only [Int.natCast_zero] at this
    rw [this]
    rfl
  · exact q.keep (Kt.gr gr (Nat.le_refl _) hbe.size hbz (by decide) (by decide)) fun b cs e1 e2 => gr.keep e1 (by
      rintro rfl
      rw [hbz] at e1
      simp at e1
      exact hT e1.2.symm)
theorem modify_set {α : Type} {l : List α} {i : Nat} {a : α} (h : l[i]? = some a) (g : α → α) : l.modify i g = l.set i (g a) := by
  apply List.ext_getElem?
  intro j
  rw [List.getElem?_modify, List.getElem?_set]
  by_cases hij : i = j
  · subst hij
    obtain ⟨h1, h2⟩ := List.getElem?_eq_some_iff.1 h
    simp [h1, h2]
  · simp [hij]
theorem ret_map {xs : List Om} {i : Nat} {xo : Om} (h : xs[i]? = some xo) {l : List Op} (hl : xs.map (·.o) = l) (r : Rr) (k : Int) (d m : Sl) : (xs.set i (xo.ret r k d m)).map (·.o) = l.modify i fun o => { o with r := r, tt := k } := by
  have h1 : l[i]? = some xo.o := by rw [← hl]; simp [h]
  rw [modify_set h1, List.map_set, hl]
  rfl
end Go.Proofs.Ytlokihpegllddaa.Cl
