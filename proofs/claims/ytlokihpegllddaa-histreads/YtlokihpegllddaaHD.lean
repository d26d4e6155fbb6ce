/-
  A result, and the place of its Returned, are stored into a row of calls that is owned.
-/
import Derived.Test.YtlokihpegllddaaHC
namespace Go.Proofs.Ytlokihpegllddaa.Cl
open Go.RowKit Go.Shelf

/-- Values one behind the other from a place on. -/
def sets (L : List Value) (o : Nat) : List Value → List Value
  | [] => L
  | v :: vs => sets (L.set o v) (o + 1) vs
theorem sets_right (a b : List Value) (vs : List Value) : ∀ (p : Nat), sets (a ++ b) (a.length + p) vs = a ++ sets b p vs := by
  induction vs generalizing b with
  | nil => intro p; rfl
  | cons v vs ih =>
    intro p
    simp only [sets]
    rw [List.set_append, if_neg (by omega), Nat.add_sub_cancel_left, Nat.add_assoc]
    exact ih _ _
theorem sets_take (vs : List Value) : ∀ (L : List Value) (o n : Nat), (sets L o vs).take n = sets (L.take n) o vs := by
  induction vs with
  | nil => intro L o n; rfl
  | cons v vs ih => intro L o n; simp only [sets]; rw [ih, List.take_set]
theorem sets_len (vs : List Value) : ∀ (L : List Value) (o : Nat), (sets L o vs).length = L.length := by
  induction vs with
  | nil => intro L o; rfl
  | cons v vs ih => intro L o; simp only [sets]; rw [ih, List.length_set]
def Om.ret (x : Om) (r : Rr) (k : Int) (d m : Sl) : Om := ⟨{ x.o with r := r, tt := k }, x.d, d, m⟩
theorem rows_put {xs : List Om} {i : Nat} {x : Om} (h : xs[i]? = some x) (r : Rr) (k : Int) (d m : Sl) :
    sets (sets (xs.flatMap rowO) (i * 23 + 10) [I r.why, I r.n, d.v, m.v, I r.node, I r.kind, I r.mode, I r.uid, I r.gid, I r.links, I r.size]) (i * 23 + 22) [I k] = (xs.set i (x.ret r k d m)).flatMap rowO := by
  induction xs generalizing i with
  | nil => simp at h
  | cons q ps ih =>
    cases i with
    | zero =>
      simp at h
      subst h
      rfl
    | succ i =>
      simp only [List.getElem?_cons_succ] at h
      rw [List.set_cons_succ, List.flatMap_cons, List.flatMap_cons, ← ih h]
      rw [show (i + 1) * 23 + 10 = (rowO q).length + (i * 23 + 10) by rw [rowO_len]; omega, show (i + 1) * 23 + 22 = (rowO q).length + (i * 23 + 22) by rw [rowO_len]; omega, sets_right, sets_right]
set_option maxRecDepth 100000 in
set_option maxHeartbeats 2000000 in
set_option linter.unusedSimpArgs false in
theorem storeRow {W : World} {g o : Nat} {cur : Array Value} {t : TypeId} (h : W.heap[g]? = some (.cells cur t)) (ho : o + 22 < cur.size) (v0 v1 v2 v3 v4 v5 v6 v7 v8 v9 v10 v11 : Value) :
    ∃ X1 X2 X3 X4 X5 X6 X7 X8 X9 X10 X11 X12 : World, (W.setCell ⟨g, o + 10, none⟩ v0 = X1 ∧ X1.setCell ⟨g, o + 10 + 1, none⟩ v1 = X2 ∧ X2.setCell ⟨g, o + 10 + 2, none⟩ v2 = X3 ∧ X3.setCell ⟨g, o + 10 + 3, none⟩ v3 = X4 ∧ X4.setCell ⟨g, o + 10 + 4, none⟩ v4 = X5 ∧ X5.setCell ⟨g, o + 10 + 5, none⟩ v5 = X6 ∧ X6.setCell ⟨g, o + 10 + 6, none⟩ v6 = X7 ∧ X7.setCell ⟨g, o + 10 + 7, none⟩ v7 = X8 ∧ X8.setCell ⟨g, o + 10 + 8, none⟩ v8 = X9 ∧ X9.setCell ⟨g, o + 10 + 9, none⟩ v9 = X10 ∧ X10.setCell ⟨g, o + 10 + 10, none⟩ v10 = X11 ∧ X11.setCell ⟨g, o + 22, none⟩ v11 = X12) ∧
      ((∃ u, W.cell? ⟨g, o + 10, none⟩ = some u) ∧ (∃ u, X1.cell? ⟨g, o + 10 + 1, none⟩ = some u) ∧ (∃ u, X2.cell? ⟨g, o + 10 + 2, none⟩ = some u) ∧ (∃ u, X3.cell? ⟨g, o + 10 + 3, none⟩ = some u) ∧ (∃ u, X4.cell? ⟨g, o + 10 + 4, none⟩ = some u) ∧ (∃ u, X5.cell? ⟨g, o + 10 + 5, none⟩ = some u) ∧ (∃ u, X6.cell? ⟨g, o + 10 + 6, none⟩ = some u) ∧ (∃ u, X7.cell? ⟨g, o + 10 + 7, none⟩ = some u) ∧ (∃ u, X8.cell? ⟨g, o + 10 + 8, none⟩ = some u) ∧ (∃ u, X9.cell? ⟨g, o + 10 + 9, none⟩ = some u) ∧ (∃ u, X10.cell? ⟨g, o + 10 + 10, none⟩ = some u) ∧ (∃ u, X11.cell? ⟨g, o + 22, none⟩ = some u)) ∧
      (W.frozen? ⟨g, o + 10, none⟩ = false ∧ X1.frozen? ⟨g, o + 10 + 1, none⟩ = false ∧ X2.frozen? ⟨g, o + 10 + 2, none⟩ = false ∧ X3.frozen? ⟨g, o + 10 + 3, none⟩ = false ∧ X4.frozen? ⟨g, o + 10 + 4, none⟩ = false ∧ X5.frozen? ⟨g, o + 10 + 5, none⟩ = false ∧ X6.frozen? ⟨g, o + 10 + 6, none⟩ = false ∧ X7.frozen? ⟨g, o + 10 + 7, none⟩ = false ∧ X8.frozen? ⟨g, o + 10 + 8, none⟩ = false ∧ X9.frozen? ⟨g, o + 10 + 9, none⟩ = false ∧ X10.frozen? ⟨g, o + 10 + 10, none⟩ = false ∧ X11.frozen? ⟨g, o + 22, none⟩ = false) ∧
      (∃ cur' : Array Value, X12.heap[g]? = some (.cells cur' t) ∧ cur'.size = cur.size ∧ cur'.toList = sets (sets cur.toList (o + 10) [v0, v1, v2, v3, v4, v5, v6, v7, v8, v9, v10]) (o + 22) [v11]) ∧ Gr g W X12 := by
  obtain ⟨X1, e1⟩ : ∃ X, W.setCell ⟨g, o + 10, none⟩ v0 = X := ⟨_, rfl⟩
  obtain ⟨c1, d1⟩ : ∃ c, cur.setIfInBounds (o + 10) v0 = c := ⟨_, rfl⟩
  have h1 : X1.heap[g]? = some (.cells c1 t) := by rw [← e1, heap_set h, d1]
  have s1 : c1.size = cur.size := by rw [← d1, Array.size_setIfInBounds]
  have l1 : c1.toList = cur.toList.set (o + 10) v0 := by rw [← d1, Array.toList_setIfInBounds]
  have g1 : Gr g W X1 := e1 ▸ Gr.set g (o + 10) W v0
  obtain ⟨X2, e2⟩ : ∃ X, X1.setCell ⟨g, o + 10 + 1, none⟩ v1 = X := ⟨_, rfl⟩
  obtain ⟨c2, d2⟩ : ∃ c, c1.setIfInBounds (o + 10 + 1) v1 = c := ⟨_, rfl⟩
  have h2 : X2.heap[g]? = some (.cells c2 t) := by rw [← e2, heap_set h1, d2]
  have s2 : c2.size = cur.size := by rw [← d2, Array.size_setIfInBounds]; exact s1
  have l2 : c2.toList = c1.toList.set (o + 10 + 1) v1 := by rw [← d2, Array.toList_setIfInBounds]
  have g2 : Gr g X1 X2 := e2 ▸ Gr.set g (o + 10 + 1) X1 v1
  obtain ⟨X3, e3⟩ : ∃ X, X2.setCell ⟨g, o + 10 + 2, none⟩ v2 = X := ⟨_, rfl⟩
  obtain ⟨c3, d3⟩ : ∃ c, c2.setIfInBounds (o + 10 + 2) v2 = c := ⟨_, rfl⟩
  have h3 : X3.heap[g]? = some (.cells c3 t) := by rw [← e3, heap_set h2, d3]
  have s3 : c3.size = cur.size := by rw [← d3, Array.size_setIfInBounds]; exact s2
  have l3 : c3.toList = c2.toList.set (o + 10 + 2) v2 := by rw [← d3, Array.toList_setIfInBounds]
  have g3 : Gr g X2 X3 := e3 ▸ Gr.set g (o + 10 + 2) X2 v2
  obtain ⟨X4, e4⟩ : ∃ X, X3.setCell ⟨g, o + 10 + 3, none⟩ v3 = X := ⟨_, rfl⟩
  obtain ⟨c4, d4⟩ : ∃ c, c3.setIfInBounds (o + 10 + 3) v3 = c := ⟨_, rfl⟩
  have h4 : X4.heap[g]? = some (.cells c4 t) := by rw [← e4, heap_set h3, d4]
  have s4 : c4.size = cur.size := by rw [← d4, Array.size_setIfInBounds]; exact s3
  have l4 : c4.toList = c3.toList.set (o + 10 + 3) v3 := by rw [← d4, Array.toList_setIfInBounds]
  have g4 : Gr g X3 X4 := e4 ▸ Gr.set g (o + 10 + 3) X3 v3
  obtain ⟨X5, e5⟩ : ∃ X, X4.setCell ⟨g, o + 10 + 4, none⟩ v4 = X := ⟨_, rfl⟩
  obtain ⟨c5, d5⟩ : ∃ c, c4.setIfInBounds (o + 10 + 4) v4 = c := ⟨_, rfl⟩
  have h5 : X5.heap[g]? = some (.cells c5 t) := by rw [← e5, heap_set h4, d5]
  have s5 : c5.size = cur.size := by rw [← d5, Array.size_setIfInBounds]; exact s4
  have l5 : c5.toList = c4.toList.set (o + 10 + 4) v4 := by rw [← d5, Array.toList_setIfInBounds]
  have g5 : Gr g X4 X5 := e5 ▸ Gr.set g (o + 10 + 4) X4 v4
  obtain ⟨X6, e6⟩ : ∃ X, X5.setCell ⟨g, o + 10 + 5, none⟩ v5 = X := ⟨_, rfl⟩
  obtain ⟨c6, d6⟩ : ∃ c, c5.setIfInBounds (o + 10 + 5) v5 = c := ⟨_, rfl⟩
  have h6 : X6.heap[g]? = some (.cells c6 t) := by rw [← e6, heap_set h5, d6]
  have s6 : c6.size = cur.size := by rw [← d6, Array.size_setIfInBounds]; exact s5
  have l6 : c6.toList = c5.toList.set (o + 10 + 5) v5 := by rw [← d6, Array.toList_setIfInBounds]
  have g6 : Gr g X5 X6 := e6 ▸ Gr.set g (o + 10 + 5) X5 v5
  obtain ⟨X7, e7⟩ : ∃ X, X6.setCell ⟨g, o + 10 + 6, none⟩ v6 = X := ⟨_, rfl⟩
  obtain ⟨c7, d7⟩ : ∃ c, c6.setIfInBounds (o + 10 + 6) v6 = c := ⟨_, rfl⟩
  have h7 : X7.heap[g]? = some (.cells c7 t) := by rw [← e7, heap_set h6, d7]
  have s7 : c7.size = cur.size := by rw [← d7, Array.size_setIfInBounds]; exact s6
  have l7 : c7.toList = c6.toList.set (o + 10 + 6) v6 := by rw [← d7, Array.toList_setIfInBounds]
  have g7 : Gr g X6 X7 := e7 ▸ Gr.set g (o + 10 + 6) X6 v6
  obtain ⟨X8, e8⟩ : ∃ X, X7.setCell ⟨g, o + 10 + 7, none⟩ v7 = X := ⟨_, rfl⟩
  obtain ⟨c8, d8⟩ : ∃ c, c7.setIfInBounds (o + 10 + 7) v7 = c := ⟨_, rfl⟩
  have h8 : X8.heap[g]? = some (.cells c8 t) := by rw [← e8, heap_set h7, d8]
  have s8 : c8.size = cur.size := by rw [← d8, Array.size_setIfInBounds]; exact s7
  have l8 : c8.toList = c7.toList.set (o + 10 + 7) v7 := by rw [← d8, Array.toList_setIfInBounds]
  have g8 : Gr g X7 X8 := e8 ▸ Gr.set g (o + 10 + 7) X7 v7
  obtain ⟨X9, e9⟩ : ∃ X, X8.setCell ⟨g, o + 10 + 8, none⟩ v8 = X := ⟨_, rfl⟩
  obtain ⟨c9, d9⟩ : ∃ c, c8.setIfInBounds (o + 10 + 8) v8 = c := ⟨_, rfl⟩
  have h9 : X9.heap[g]? = some (.cells c9 t) := by rw [← e9, heap_set h8, d9]
  have s9 : c9.size = cur.size := by rw [← d9, Array.size_setIfInBounds]; exact s8
  have l9 : c9.toList = c8.toList.set (o + 10 + 8) v8 := by rw [← d9, Array.toList_setIfInBounds]
  have g9 : Gr g X8 X9 := e9 ▸ Gr.set g (o + 10 + 8) X8 v8
  obtain ⟨X10, e10⟩ : ∃ X, X9.setCell ⟨g, o + 10 + 9, none⟩ v9 = X := ⟨_, rfl⟩
  obtain ⟨c10, d10⟩ : ∃ c, c9.setIfInBounds (o + 10 + 9) v9 = c := ⟨_, rfl⟩
  have h10 : X10.heap[g]? = some (.cells c10 t) := by rw [← e10, heap_set h9, d10]
  have s10 : c10.size = cur.size := by rw [← d10, Array.size_setIfInBounds]; exact s9
  have l10 : c10.toList = c9.toList.set (o + 10 + 9) v9 := by rw [← d10, Array.toList_setIfInBounds]
  have g10 : Gr g X9 X10 := e10 ▸ Gr.set g (o + 10 + 9) X9 v9
  obtain ⟨X11, e11⟩ : ∃ X, X10.setCell ⟨g, o + 10 + 10, none⟩ v10 = X := ⟨_, rfl⟩
  obtain ⟨c11, d11⟩ : ∃ c, c10.setIfInBounds (o + 10 + 10) v10 = c := ⟨_, rfl⟩
  have h11 : X11.heap[g]? = some (.cells c11 t) := by rw [← e11, heap_set h10, d11]
  have s11 : c11.size = cur.size := by rw [← d11, Array.size_setIfInBounds]; exact s10
  have l11 : c11.toList = c10.toList.set (o + 10 + 10) v10 := by rw [← d11, Array.toList_setIfInBounds]
  have g11 : Gr g X10 X11 := e11 ▸ Gr.set g (o + 10 + 10) X10 v10
  obtain ⟨X12, e12⟩ : ∃ X, X11.setCell ⟨g, o + 22, none⟩ v11 = X := ⟨_, rfl⟩
  obtain ⟨c12, d12⟩ : ∃ c, c11.setIfInBounds (o + 22) v11 = c := ⟨_, rfl⟩
  have h12 : X12.heap[g]? = some (.cells c12 t) := by rw [← e12, heap_set h11, d12]
  have s12 : c12.size = cur.size := by rw [← d12, Array.size_setIfInBounds]; exact s11
  have l12 : c12.toList = c11.toList.set (o + 22) v11 := by rw [← d12, Array.toList_setIfInBounds]
  have g12 : Gr g X11 X12 := e12 ▸ Gr.set g (o + 22) X11 v11
  refine ⟨X1, X2, X3, X4, X5, X6, X7, X8, X9, X10, X11, X12, ⟨e1, e2, e3, e4, e5, e6, e7, e8, e9, e10, e11, e12⟩, ⟨?_, ?_, ?_, ?_, ?_, ?_, ?_, ?_, ?_, ?_, ?_, ?_⟩, ⟨frozen_of h _, frozen_of h1 _, frozen_of h2 _, frozen_of h3 _, frozen_of h4 _, frozen_of h5 _, frozen_of h6 _, frozen_of h7 _, frozen_of h8 _, frozen_of h9 _, frozen_of h10 _, frozen_of h11 _⟩, ⟨c12, h12, s12, ?_⟩, ?_⟩
  · rw [cell_of h]; exact ⟨_, Array.getElem?_eq_getElem (by omega)⟩
  · rw [cell_of h1]; exact ⟨_, Array.getElem?_eq_getElem (by rw [s1]; omega)⟩
  · rw [cell_of h2]; exact ⟨_, Array.getElem?_eq_getElem (by rw [s2]; omega)⟩
  · rw [cell_of h3]; exact ⟨_, Array.getElem?_eq_getElem (by rw [s3]; omega)⟩
  · rw [cell_of h4]; exact ⟨_, Array.getElem?_eq_getElem (by rw [s4]; omega)⟩
  · rw [cell_of h5]; exact ⟨_, Array.getElem?_eq_getElem (by rw [s5]; omega)⟩
  · rw [cell_of h6]; exact ⟨_, Array.getElem?_eq_getElem (by rw [s6]; omega)⟩
  · rw [cell_of h7]; exact ⟨_, Array.getElem?_eq_getElem (by rw [s7]; omega)⟩
  · rw [cell_of h8]; exact ⟨_, Array.getElem?_eq_getElem (by rw [s8]; omega)⟩
  · rw [cell_of h9]; exact ⟨_, Array.getElem?_eq_getElem (by rw [s9]; omega)⟩
  · rw [cell_of h10]; exact ⟨_, Array.getElem?_eq_getElem (by rw [s10]; omega)⟩
  · rw [cell_of h11]; exact ⟨_, Array.getElem?_eq_getElem (by rw [s11]; omega)⟩
  · rw [l12, l11, l10, l9, l8, l7, l6, l5, l4, l3, l2, l1]; simp only [sets, Nat.add_assoc, Nat.reduceAdd]
  · exact (((((((((((g1.trans g2).trans g3).trans g4).trans g5).trans g6).trans g7).trans g8).trans g9).trans g10).trans g11).trans g12)
theorem Ow.form2 {T : TypeId} {W : World} {h : Nat} {v : Value} {xs : List Om} (q : Ow T W h v xs) (hx : 0 < xs.length) : ∃ g cap cur, v = .slice (some ⟨g, 0, none⟩) xs.length cap ∧ h ≤ g ∧ W.heap[g]? = some (.cells cur T) ∧ xs.length ≤ cap ∧ cap ≤ maxLen ∧ cur.size = cap * 23 ∧ cur.toList.take (xs.length * 23) = xs.flatMap rowO := by
  obtain ⟨⟨-, ⟨rfl, h2⟩ | ⟨g, cap, cur, rfl, h2, h3, h4, h5, h6, h7⟩⟩, -⟩ := q
  · omega
  · refine ⟨g, cap, cur, rfl, h2, h3, h4, h5, h6, ?_⟩
    exact h7
/-- Behind the stores it is the row with that result. -/
theorem Ow.ret {T : TypeId} {W X : World} {h g cap : Nat} {cur cur' : Array Value} {xs : List Om} (hT5 : T ≠ 5) (hT9 : T ≠ 9) (q : Ow T W h (.slice (some ⟨g, 0, none⟩) xs.length cap) xs) (hg : W.heap[g]? = some (.cells cur T)) (hh : h ≤ W.heap.size) {i : Nat} {x : Om} (hx : xs[i]? = some x) (r : Rr) (k : Int) (d m : Sl)
    (h1 : X.heap[g]? = some (.cells cur' T)) (h2 : cur'.size = cur.size) (h3 : cur'.toList = sets (sets cur.toList (i * 23 + 10) [I r.why, I r.n, d.v, m.v, I r.node, I r.kind, I r.mode, I r.uid, I r.gid, I r.links, I r.size]) (i * 23 + 22) [I k]) (gr : Gr g W X) (od : Dq W h d r.data) (on : Nq W h m r.names) :
    Ow T X h (.slice (some ⟨g, 0, none⟩) xs.length cap) (xs.set i (x.ret r k d m)) ∧ Kt h W X := by
  have hpos : 0 < xs.length := by have := (List.getElem?_eq_some_iff.1 hx).1; omega
  have q0 := q
  obtain ⟨⟨f1, ⟨f2, f3⟩ | ⟨g', cap', cur0, f2, f3, f4, f5, f6, f7, f8⟩⟩, f9⟩ := q
  · omega
  · simp only [Value.slice.injEq, Option.some.injEq, Addr.mk.injEq, and_true, true_and] at f2
    obtain ⟨rfl, rfl⟩ := f2
    rw [hg] at f4
    simp only [Option.some.injEq, Obj.cells.injEq, and_true] at f4
    subst f4
    have kt : Kt h W X := Kt.gr gr f3 hh hg hT5 hT9
    refine ⟨⟨⟨by rw [rows_len, List.length_set], .inr ⟨g, cap, cur', by rw [List.length_set], f3, h1, by rw [List.length_set]; exact f5, f6, by rw [h2]; exact f7, ?_⟩⟩, fun p hp => ?_⟩, kt⟩
    · rw [List.length_set, h3, sets_take, sets_take, f8, rows_put hx]
    · rcases List.mem_or_eq_of_mem_set hp with hp | rfl
      · exact (f9 p hp).kt kt
      · have o1 := (f9 x (List.mem_of_getElem? hx))
        exact ⟨o1.1.kt kt, od.kt kt, on.kt kt⟩
end Go.Proofs.Ytlokihpegllddaa.Cl
