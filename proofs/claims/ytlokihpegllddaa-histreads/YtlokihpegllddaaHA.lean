/-
  Rows of events and of calls in memory; structs that are stored cell by cell.
-/
import Derived.Test.YtlokihpegllddaaHP
import Derived.Test.YtlokihpegllddaaCBase
namespace Go.Proofs.Ytlokihpegllddaa.Cl
open Go.RowKit
set_option linter.unusedSimpArgs false

abbrev I (n : Int) : Value := .int .i64 n
/-- What a store into one block leaves alone. -/
abbrev Gr (r : Nat) (w w' : World) : Prop := w.grownBy w' (some r)
theorem Gr.trans {r : Nat} {u v w : World} (h : Gr r u v) (g : Gr r v w) : Gr r u w :=
  ⟨g.os.trans h.os, g.tape.trans h.tape, g.output.trans h.output, Nat.le_trans h.size g.size, fun k hk hne => (g.block k (Nat.lt_of_lt_of_le hk h.size) hne).trans (h.block k hk hne)⟩
theorem Gr.refl (r : Nat) (w : World) : Gr r w w := ⟨rfl, rfl, rfl, Nat.le_refl _, fun _ _ _ => rfl⟩
theorem Gr.set (r i : Nat) (w : World) (v : Value) : Gr r w (w.setCell ⟨r, i, none⟩ v) :=
  ⟨rfl, rfl, rfl, by simp, fun k _ hne => Below.heap_setCell _ _ _ _ (fun e => hne (by simp at e; simp [e]))⟩
theorem Gr.below {r B : Nat} {u w : World} (h : Gr r u w) (hr : B ≤ r) (hu : B ≤ u.heap.size) : Below B u w := ⟨h.os, h.tape, h.output, h.size, fun k hk => h.block k (by omega) (by simp; omega)⟩
theorem Gr.keep {r k : Nat} {u w : World} {o : Obj} (h : Gr r u w) (hk : u.heap[k]? = some o) (hne : k ≠ r) : w.heap[k]? = some o := (h.block k (lt_of_heap hk) (by simpa using hne)).trans hk
theorem alloc1 (w : World) (o : Obj) : ∃ V, w.alloc o = V ∧ V.heap.size = w.heap.size + 1 ∧ V.heap[w.heap.size]? = some o ∧ Below w.heap.size w V := ⟨_, rfl, by simp, putAll _ _ rfl, (Below.refl _ _).alloc (Nat.le_refl _) _⟩
theorem alloc2 (w : World) (o1 o2 : Obj) : ∃ V : World, ((w.alloc o1).alloc o2) = V ∧ V.heap.size = w.heap.size + 2 ∧ V.heap[w.heap.size]? = some o1 ∧ V.heap[w.heap.size + 1]? = some o2 ∧ Below w.heap.size w V := by
  refine ⟨_, rfl, by simp, ?_, ?_, ?_⟩
  · rw [Below.heap_alloc _ _ _ (by simp)]; exact putAll _ _ rfl
  · exact putAll _ _ (by simp)
  · exact ((Below.refl w.heap.size w).alloc (Nat.le_refl _) o1).alloc (by simp) o2
abbrev Z9 : Array Value := #[I 0, .string ⟨#[]⟩, .string ⟨#[]⟩, I 0, I 0, I 0, I 0, I 0, .slice none 0 0]
abbrev Z11 : Array Value := #[I 0, I 0, .slice none 0 0, .slice none 0 0, I 0, I 0, I 0, I 0, I 0, I 0, I 0]
abbrev Z22 : Array Value := #[I 0, I 0, I 0, .string ⟨#[]⟩, .string ⟨#[]⟩, I 0, I 0, I 0, I 0, I 0, .slice none 0 0, I 0, I 0, .slice none 0 0, .slice none 0 0, I 0, I 0, I 0, I 0, I 0, I 0, I 0]
abbrev Z23 : Array Value := #[I 0, I 0, .string ⟨#[]⟩, .string ⟨#[]⟩, I 0, I 0, I 0, I 0, I 0, .slice none 0 0, I 0, I 0, .slice none 0 0, .slice none 0 0, I 0, I 0, I 0, I 0, I 0, I 0, I 0, I 0, I 0]
theorem cells9 {W : World} {h : Nat} {t : TypeId} {f : Nat × Nat} {a0 a1 a2 a3 a4 a5 a6 a7 a8 : Value} (c : W.heap[h]? = some (.cells #[a0, a1, a2, a3, a4, a5, a6, a7, a8] t f)) :
    W.cell? ⟨h, 0, none⟩ = some a0 ∧ W.cell? ⟨h, 1, none⟩ = some a1 ∧ W.cell? ⟨h, 2, none⟩ = some a2 ∧ W.cell? ⟨h, 3, none⟩ = some a3 ∧ W.cell? ⟨h, 4, none⟩ = some a4 ∧ W.cell? ⟨h, 5, none⟩ = some a5 ∧ W.cell? ⟨h, 6, none⟩ = some a6 ∧ W.cell? ⟨h, 7, none⟩ = some a7 ∧ W.cell? ⟨h, 8, none⟩ = some a8 := by
  refine ⟨?_, ?_, ?_, ?_, ?_, ?_, ?_, ?_, ?_⟩ <;> (rw [cell_of c]; rfl)
theorem cells11 {W : World} {h : Nat} {t : TypeId} {f : Nat × Nat} {a0 a1 a2 a3 a4 a5 a6 a7 a8 a9 a10 : Value} (c : W.heap[h]? = some (.cells #[a0, a1, a2, a3, a4, a5, a6, a7, a8, a9, a10] t f)) :
    W.cell? ⟨h, 0, none⟩ = some a0 ∧ W.cell? ⟨h, 1, none⟩ = some a1 ∧ W.cell? ⟨h, 2, none⟩ = some a2 ∧ W.cell? ⟨h, 3, none⟩ = some a3 ∧ W.cell? ⟨h, 4, none⟩ = some a4 ∧ W.cell? ⟨h, 5, none⟩ = some a5 ∧ W.cell? ⟨h, 6, none⟩ = some a6 ∧ W.cell? ⟨h, 7, none⟩ = some a7 ∧ W.cell? ⟨h, 8, none⟩ = some a8 ∧ W.cell? ⟨h, 9, none⟩ = some a9 ∧ W.cell? ⟨h, 10, none⟩ = some a10 := by
  refine ⟨?_, ?_, ?_, ?_, ?_, ?_, ?_, ?_, ?_, ?_, ?_⟩ <;> (rw [cell_of c]; rfl)
theorem cells22 {W : World} {h : Nat} {t : TypeId} {f : Nat × Nat} {a0 a1 a2 a3 a4 a5 a6 a7 a8 a9 a10 a11 a12 a13 a14 a15 a16 a17 a18 a19 a20 a21 : Value} (c : W.heap[h]? = some (.cells #[a0, a1, a2, a3, a4, a5, a6, a7, a8, a9, a10, a11, a12, a13, a14, a15, a16, a17, a18, a19, a20, a21] t f)) :
    W.cell? ⟨h, 0, none⟩ = some a0 ∧ W.cell? ⟨h, 1, none⟩ = some a1 ∧ W.cell? ⟨h, 2, none⟩ = some a2 ∧ W.cell? ⟨h, 3, none⟩ = some a3 ∧ W.cell? ⟨h, 4, none⟩ = some a4 ∧ W.cell? ⟨h, 5, none⟩ = some a5 ∧ W.cell? ⟨h, 6, none⟩ = some a6 ∧ W.cell? ⟨h, 7, none⟩ = some a7 ∧ W.cell? ⟨h, 8, none⟩ = some a8 ∧ W.cell? ⟨h, 9, none⟩ = some a9 ∧ W.cell? ⟨h, 10, none⟩ = some a10 ∧ W.cell? ⟨h, 11, none⟩ = some a11 ∧ W.cell? ⟨h, 12, none⟩ = some a12 ∧ W.cell? ⟨h, 13, none⟩ = some a13 ∧ W.cell? ⟨h, 14, none⟩ = some a14 ∧ W.cell? ⟨h, 15, none⟩ = some a15 ∧ W.cell? ⟨h, 16, none⟩ = some a16 ∧ W.cell? ⟨h, 17, none⟩ = some a17 ∧ W.cell? ⟨h, 18, none⟩ = some a18 ∧ W.cell? ⟨h, 19, none⟩ = some a19 ∧ W.cell? ⟨h, 20, none⟩ = some a20 ∧ W.cell? ⟨h, 21, none⟩ = some a21 := by
  refine ⟨?_, ?_, ?_, ?_, ?_, ?_, ?_, ?_, ?_, ?_, ?_, ?_, ?_, ?_, ?_, ?_, ?_, ?_, ?_, ?_, ?_, ?_⟩ <;> (rw [cell_of c]; rfl)
theorem cells23 {W : World} {h : Nat} {t : TypeId} {f : Nat × Nat} {a0 a1 a2 a3 a4 a5 a6 a7 a8 a9 a10 a11 a12 a13 a14 a15 a16 a17 a18 a19 a20 a21 a22 : Value} (c : W.heap[h]? = some (.cells #[a0, a1, a2, a3, a4, a5, a6, a7, a8, a9, a10, a11, a12, a13, a14, a15, a16, a17, a18, a19, a20, a21, a22] t f)) :
    W.cell? ⟨h, 0, none⟩ = some a0 ∧ W.cell? ⟨h, 1, none⟩ = some a1 ∧ W.cell? ⟨h, 2, none⟩ = some a2 ∧ W.cell? ⟨h, 3, none⟩ = some a3 ∧ W.cell? ⟨h, 4, none⟩ = some a4 ∧ W.cell? ⟨h, 5, none⟩ = some a5 ∧ W.cell? ⟨h, 6, none⟩ = some a6 ∧ W.cell? ⟨h, 7, none⟩ = some a7 ∧ W.cell? ⟨h, 8, none⟩ = some a8 ∧ W.cell? ⟨h, 9, none⟩ = some a9 ∧ W.cell? ⟨h, 10, none⟩ = some a10 ∧ W.cell? ⟨h, 11, none⟩ = some a11 ∧ W.cell? ⟨h, 12, none⟩ = some a12 ∧ W.cell? ⟨h, 13, none⟩ = some a13 ∧ W.cell? ⟨h, 14, none⟩ = some a14 ∧ W.cell? ⟨h, 15, none⟩ = some a15 ∧ W.cell? ⟨h, 16, none⟩ = some a16 ∧ W.cell? ⟨h, 17, none⟩ = some a17 ∧ W.cell? ⟨h, 18, none⟩ = some a18 ∧ W.cell? ⟨h, 19, none⟩ = some a19 ∧ W.cell? ⟨h, 20, none⟩ = some a20 ∧ W.cell? ⟨h, 21, none⟩ = some a21 ∧ W.cell? ⟨h, 22, none⟩ = some a22 := by
  refine ⟨?_, ?_, ?_, ?_, ?_, ?_, ?_, ?_, ?_, ?_, ?_, ?_, ?_, ?_, ?_, ?_, ?_, ?_, ?_, ?_, ?_, ?_, ?_⟩ <;> (rw [cell_of c]; rfl)
theorem row22 {W : World} {g o : Nat} {a0 a1 a2 a3 a4 a5 a6 a7 a8 a9 a10 a11 a12 a13 a14 a15 a16 a17 a18 a19 a20 a21 : Value} (h : ∀ (j : Nat) (v : Value), #[a0, a1, a2, a3, a4, a5, a6, a7, a8, a9, a10, a11, a12, a13, a14, a15, a16, a17, a18, a19, a20, a21][j]? = some v → W.cell? ⟨g, o + j, none⟩ = some v) :
    W.cell? ⟨g, o, none⟩ = some a0 ∧ W.cell? ⟨g, o + 1, none⟩ = some a1 ∧ W.cell? ⟨g, o + 2, none⟩ = some a2 ∧ W.cell? ⟨g, o + 3, none⟩ = some a3 ∧ W.cell? ⟨g, o + 4, none⟩ = some a4 ∧ W.cell? ⟨g, o + 5, none⟩ = some a5 ∧ W.cell? ⟨g, o + 6, none⟩ = some a6 ∧ W.cell? ⟨g, o + 7, none⟩ = some a7 ∧ W.cell? ⟨g, o + 8, none⟩ = some a8 ∧ W.cell? ⟨g, o + 9, none⟩ = some a9 ∧ W.cell? ⟨g, o + 10, none⟩ = some a10 ∧ W.cell? ⟨g, o + 11, none⟩ = some a11 ∧ W.cell? ⟨g, o + 12, none⟩ = some a12 ∧ W.cell? ⟨g, o + 13, none⟩ = some a13 ∧ W.cell? ⟨g, o + 14, none⟩ = some a14 ∧ W.cell? ⟨g, o + 15, none⟩ = some a15 ∧ W.cell? ⟨g, o + 16, none⟩ = some a16 ∧ W.cell? ⟨g, o + 17, none⟩ = some a17 ∧ W.cell? ⟨g, o + 18, none⟩ = some a18 ∧ W.cell? ⟨g, o + 19, none⟩ = some a19 ∧ W.cell? ⟨g, o + 20, none⟩ = some a20 ∧ W.cell? ⟨g, o + 21, none⟩ = some a21 :=
  ⟨h 0 _ rfl, h 1 _ rfl, h 2 _ rfl, h 3 _ rfl, h 4 _ rfl, h 5 _ rfl, h 6 _ rfl, h 7 _ rfl, h 8 _ rfl, h 9 _ rfl, h 10 _ rfl, h 11 _ rfl, h 12 _ rfl, h 13 _ rfl, h 14 _ rfl, h 15 _ rfl, h 16 _ rfl, h 17 _ rfl, h 18 _ rfl, h 19 _ rfl, h 20 _ rfl, h 21 _ rfl⟩
theorem row23 {W : World} {g o : Nat} {a0 a1 a2 a3 a4 a5 a6 a7 a8 a9 a10 a11 a12 a13 a14 a15 a16 a17 a18 a19 a20 a21 a22 : Value} (h : ∀ (j : Nat) (v : Value), #[a0, a1, a2, a3, a4, a5, a6, a7, a8, a9, a10, a11, a12, a13, a14, a15, a16, a17, a18, a19, a20, a21, a22][j]? = some v → W.cell? ⟨g, o + j, none⟩ = some v) :
    W.cell? ⟨g, o, none⟩ = some a0 ∧ W.cell? ⟨g, o + 1, none⟩ = some a1 ∧ W.cell? ⟨g, o + 2, none⟩ = some a2 ∧ W.cell? ⟨g, o + 3, none⟩ = some a3 ∧ W.cell? ⟨g, o + 4, none⟩ = some a4 ∧ W.cell? ⟨g, o + 5, none⟩ = some a5 ∧ W.cell? ⟨g, o + 6, none⟩ = some a6 ∧ W.cell? ⟨g, o + 7, none⟩ = some a7 ∧ W.cell? ⟨g, o + 8, none⟩ = some a8 ∧ W.cell? ⟨g, o + 9, none⟩ = some a9 ∧ W.cell? ⟨g, o + 10, none⟩ = some a10 ∧ W.cell? ⟨g, o + 11, none⟩ = some a11 ∧ W.cell? ⟨g, o + 12, none⟩ = some a12 ∧ W.cell? ⟨g, o + 13, none⟩ = some a13 ∧ W.cell? ⟨g, o + 14, none⟩ = some a14 ∧ W.cell? ⟨g, o + 15, none⟩ = some a15 ∧ W.cell? ⟨g, o + 16, none⟩ = some a16 ∧ W.cell? ⟨g, o + 17, none⟩ = some a17 ∧ W.cell? ⟨g, o + 18, none⟩ = some a18 ∧ W.cell? ⟨g, o + 19, none⟩ = some a19 ∧ W.cell? ⟨g, o + 20, none⟩ = some a20 ∧ W.cell? ⟨g, o + 21, none⟩ = some a21 ∧ W.cell? ⟨g, o + 22, none⟩ = some a22 :=
  ⟨h 0 _ rfl, h 1 _ rfl, h 2 _ rfl, h 3 _ rfl, h 4 _ rfl, h 5 _ rfl, h 6 _ rfl, h 7 _ rfl, h 8 _ rfl, h 9 _ rfl, h 10 _ rfl, h 11 _ rfl, h 12 _ rfl, h 13 _ rfl, h 14 _ rfl, h 15 _ rfl, h 16 _ rfl, h 17 _ rfl, h 18 _ rfl, h 19 _ rfl, h 20 _ rfl, h 21 _ rfl, h 22 _ rfl⟩
set_option maxRecDepth 100000
theorem store9 {W : World} {b : Nat} {t : TypeId} {a0 a1 a2 a3 a4 a5 a6 a7 a8 : Value} (h : W.heap[b]? = some (.cells #[a0, a1, a2, a3, a4, a5, a6, a7, a8] t)) (v0 v1 v2 v3 v4 v5 v6 v7 v8 : Value) :
    ∃ X1 X2 X3 X4 X5 X6 X7 X8 X9 : World, (W.setCell ⟨b, 0, none⟩ v0 = X1 ∧ X1.setCell ⟨b, 1, none⟩ v1 = X2 ∧ X2.setCell ⟨b, 2, none⟩ v2 = X3 ∧ X3.setCell ⟨b, 3, none⟩ v3 = X4 ∧ X4.setCell ⟨b, 4, none⟩ v4 = X5 ∧ X5.setCell ⟨b, 5, none⟩ v5 = X6 ∧ X6.setCell ⟨b, 6, none⟩ v6 = X7 ∧ X7.setCell ⟨b, 7, none⟩ v7 = X8 ∧ X8.setCell ⟨b, 8, none⟩ v8 = X9) ∧
      (W.cell? ⟨b, 0, none⟩ = some a0 ∧ X1.cell? ⟨b, 1, none⟩ = some a1 ∧ X2.cell? ⟨b, 2, none⟩ = some a2 ∧ X3.cell? ⟨b, 3, none⟩ = some a3 ∧ X4.cell? ⟨b, 4, none⟩ = some a4 ∧ X5.cell? ⟨b, 5, none⟩ = some a5 ∧ X6.cell? ⟨b, 6, none⟩ = some a6 ∧ X7.cell? ⟨b, 7, none⟩ = some a7 ∧ X8.cell? ⟨b, 8, none⟩ = some a8) ∧
      (W.frozen? ⟨b, 0, none⟩ = false ∧ X1.frozen? ⟨b, 1, none⟩ = false ∧ X2.frozen? ⟨b, 2, none⟩ = false ∧ X3.frozen? ⟨b, 3, none⟩ = false ∧ X4.frozen? ⟨b, 4, none⟩ = false ∧ X5.frozen? ⟨b, 5, none⟩ = false ∧ X6.frozen? ⟨b, 6, none⟩ = false ∧ X7.frozen? ⟨b, 7, none⟩ = false ∧ X8.frozen? ⟨b, 8, none⟩ = false) ∧
      X9.heap[b]? = some (.cells #[v0, v1, v2, v3, v4, v5, v6, v7, v8] t) ∧ Gr b W X9 := by
  obtain ⟨X1, e1⟩ : ∃ X, W.setCell ⟨b, 0, none⟩ v0 = X := ⟨_, rfl⟩
  have h1 : X1.heap[b]? = some (.cells #[v0, a1, a2, a3, a4, a5, a6, a7, a8] t) := by rw [← e1, heap_set h]; simp only [List.setIfInBounds_toArray, List.set_cons_succ, List.set_cons_zero]
  have g1 : Gr b W X1 := e1 ▸ Gr.set b 0 W v0
  obtain ⟨X2, e2⟩ : ∃ X, X1.setCell ⟨b, 1, none⟩ v1 = X := ⟨_, rfl⟩
  have h2 : X2.heap[b]? = some (.cells #[v0, v1, a2, a3, a4, a5, a6, a7, a8] t) := by rw [← e2, heap_set h1]; simp only [List.setIfInBounds_toArray, List.set_cons_succ, List.set_cons_zero]
  have g2 : Gr b X1 X2 := e2 ▸ Gr.set b 1 X1 v1
  obtain ⟨X3, e3⟩ : ∃ X, X2.setCell ⟨b, 2, none⟩ v2 = X := ⟨_, rfl⟩
  have h3 : X3.heap[b]? = some (.cells #[v0, v1, v2, a3, a4, a5, a6, a7, a8] t) := by rw [← e3, heap_set h2]; simp only [List.setIfInBounds_toArray, List.set_cons_succ, List.set_cons_zero]
  have g3 : Gr b X2 X3 := e3 ▸ Gr.set b 2 X2 v2
  obtain ⟨X4, e4⟩ : ∃ X, X3.setCell ⟨b, 3, none⟩ v3 = X := ⟨_, rfl⟩
  have h4 : X4.heap[b]? = some (.cells #[v0, v1, v2, v3, a4, a5, a6, a7, a8] t) := by rw [← e4, heap_set h3]; simp only [List.setIfInBounds_toArray, List.set_cons_succ, List.set_cons_zero]
  have g4 : Gr b X3 X4 := e4 ▸ Gr.set b 3 X3 v3
  obtain ⟨X5, e5⟩ : ∃ X, X4.setCell ⟨b, 4, none⟩ v4 = X := ⟨_, rfl⟩
  have h5 : X5.heap[b]? = some (.cells #[v0, v1, v2, v3, v4, a5, a6, a7, a8] t) := by rw [← e5, heap_set h4]; simp only [List.setIfInBounds_toArray, List.set_cons_succ, List.set_cons_zero]
  have g5 : Gr b X4 X5 := e5 ▸ Gr.set b 4 X4 v4
  obtain ⟨X6, e6⟩ : ∃ X, X5.setCell ⟨b, 5, none⟩ v5 = X := ⟨_, rfl⟩
  have h6 : X6.heap[b]? = some (.cells #[v0, v1, v2, v3, v4, v5, a6, a7, a8] t) := by rw [← e6, heap_set h5]; simp only [List.setIfInBounds_toArray, List.set_cons_succ, List.set_cons_zero]
  have g6 : Gr b X5 X6 := e6 ▸ Gr.set b 5 X5 v5
  obtain ⟨X7, e7⟩ : ∃ X, X6.setCell ⟨b, 6, none⟩ v6 = X := ⟨_, rfl⟩
  have h7 : X7.heap[b]? = some (.cells #[v0, v1, v2, v3, v4, v5, v6, a7, a8] t) := by rw [← e7, heap_set h6]; simp only [List.setIfInBounds_toArray, List.set_cons_succ, List.set_cons_zero]
  have g7 : Gr b X6 X7 := e7 ▸ Gr.set b 6 X6 v6
  obtain ⟨X8, e8⟩ : ∃ X, X7.setCell ⟨b, 7, none⟩ v7 = X := ⟨_, rfl⟩
  have h8 : X8.heap[b]? = some (.cells #[v0, v1, v2, v3, v4, v5, v6, v7, a8] t) := by rw [← e8, heap_set h7]; simp only [List.setIfInBounds_toArray, List.set_cons_succ, List.set_cons_zero]
  have g8 : Gr b X7 X8 := e8 ▸ Gr.set b 7 X7 v7
  obtain ⟨X9, e9⟩ : ∃ X, X8.setCell ⟨b, 8, none⟩ v8 = X := ⟨_, rfl⟩
  have h9 : X9.heap[b]? = some (.cells #[v0, v1, v2, v3, v4, v5, v6, v7, v8] t) := by rw [← e9, heap_set h8]; simp only [List.setIfInBounds_toArray, List.set_cons_succ, List.set_cons_zero]
  have g9 : Gr b X8 X9 := e9 ▸ Gr.set b 8 X8 v8
  refine ⟨X1, X2, X3, X4, X5, X6, X7, X8, X9, ⟨e1, e2, e3, e4, e5, e6, e7, e8, e9⟩, ⟨?_, ?_, ?_, ?_, ?_, ?_, ?_, ?_, ?_⟩, ⟨frozen_of h _, frozen_of h1 _, frozen_of h2 _, frozen_of h3 _, frozen_of h4 _, frozen_of h5 _, frozen_of h6 _, frozen_of h7 _, frozen_of h8 _⟩, h9, ?_⟩
  · rw [cell_of h]; rfl
  · rw [cell_of h1]; rfl
  · rw [cell_of h2]; rfl
  · rw [cell_of h3]; rfl
  · rw [cell_of h4]; rfl
  · rw [cell_of h5]; rfl
  · rw [cell_of h6]; rfl
  · rw [cell_of h7]; rfl
  · rw [cell_of h8]; rfl
  · exact ((((((((g1.trans g2).trans g3).trans g4).trans g5).trans g6).trans g7).trans g8).trans g9)
theorem store11 {W : World} {b : Nat} {t : TypeId} {a0 a1 a2 a3 a4 a5 a6 a7 a8 a9 a10 : Value} (h : W.heap[b]? = some (.cells #[a0, a1, a2, a3, a4, a5, a6, a7, a8, a9, a10] t)) (v0 v1 v2 v3 v4 v5 v6 v7 v8 v9 v10 : Value) :
    ∃ X1 X2 X3 X4 X5 X6 X7 X8 X9 X10 X11 : World, (W.setCell ⟨b, 0, none⟩ v0 = X1 ∧ X1.setCell ⟨b, 1, none⟩ v1 = X2 ∧ X2.setCell ⟨b, 2, none⟩ v2 = X3 ∧ X3.setCell ⟨b, 3, none⟩ v3 = X4 ∧ X4.setCell ⟨b, 4, none⟩ v4 = X5 ∧ X5.setCell ⟨b, 5, none⟩ v5 = X6 ∧ X6.setCell ⟨b, 6, none⟩ v6 = X7 ∧ X7.setCell ⟨b, 7, none⟩ v7 = X8 ∧ X8.setCell ⟨b, 8, none⟩ v8 = X9 ∧ X9.setCell ⟨b, 9, none⟩ v9 = X10 ∧ X10.setCell ⟨b, 10, none⟩ v10 = X11) ∧
      (W.cell? ⟨b, 0, none⟩ = some a0 ∧ X1.cell? ⟨b, 1, none⟩ = some a1 ∧ X2.cell? ⟨b, 2, none⟩ = some a2 ∧ X3.cell? ⟨b, 3, none⟩ = some a3 ∧ X4.cell? ⟨b, 4, none⟩ = some a4 ∧ X5.cell? ⟨b, 5, none⟩ = some a5 ∧ X6.cell? ⟨b, 6, none⟩ = some a6 ∧ X7.cell? ⟨b, 7, none⟩ = some a7 ∧ X8.cell? ⟨b, 8, none⟩ = some a8 ∧ X9.cell? ⟨b, 9, none⟩ = some a9 ∧ X10.cell? ⟨b, 10, none⟩ = some a10) ∧
      (W.frozen? ⟨b, 0, none⟩ = false ∧ X1.frozen? ⟨b, 1, none⟩ = false ∧ X2.frozen? ⟨b, 2, none⟩ = false ∧ X3.frozen? ⟨b, 3, none⟩ = false ∧ X4.frozen? ⟨b, 4, none⟩ = false ∧ X5.frozen? ⟨b, 5, none⟩ = false ∧ X6.frozen? ⟨b, 6, none⟩ = false ∧ X7.frozen? ⟨b, 7, none⟩ = false ∧ X8.frozen? ⟨b, 8, none⟩ = false ∧ X9.frozen? ⟨b, 9, none⟩ = false ∧ X10.frozen? ⟨b, 10, none⟩ = false) ∧
      X11.heap[b]? = some (.cells #[v0, v1, v2, v3, v4, v5, v6, v7, v8, v9, v10] t) ∧ Gr b W X11 := by
  obtain ⟨X1, e1⟩ : ∃ X, W.setCell ⟨b, 0, none⟩ v0 = X := ⟨_, rfl⟩
  have h1 : X1.heap[b]? = some (.cells #[v0, a1, a2, a3, a4, a5, a6, a7, a8, a9, a10] t) := by rw [← e1, heap_set h]; simp only [List.setIfInBounds_toArray, List.set_cons_succ, List.set_cons_zero]
  have g1 : Gr b W X1 := e1 ▸ Gr.set b 0 W v0
  obtain ⟨X2, e2⟩ : ∃ X, X1.setCell ⟨b, 1, none⟩ v1 = X := ⟨_, rfl⟩
  have h2 : X2.heap[b]? = some (.cells #[v0, v1, a2, a3, a4, a5, a6, a7, a8, a9, a10] t) := by rw [← e2, heap_set h1]; simp only [List.setIfInBounds_toArray, List.set_cons_succ, List.set_cons_zero]
  have g2 : Gr b X1 X2 := e2 ▸ Gr.set b 1 X1 v1
  obtain ⟨X3, e3⟩ : ∃ X, X2.setCell ⟨b, 2, none⟩ v2 = X := ⟨_, rfl⟩
  have h3 : X3.heap[b]? = some (.cells #[v0, v1, v2, a3, a4, a5, a6, a7, a8, a9, a10] t) := by rw [← e3, heap_set h2]; simp only [List.setIfInBounds_toArray, List.set_cons_succ, List.set_cons_zero]
  have g3 : Gr b X2 X3 := e3 ▸ Gr.set b 2 X2 v2
  obtain ⟨X4, e4⟩ : ∃ X, X3.setCell ⟨b, 3, none⟩ v3 = X := ⟨_, rfl⟩
  have h4 : X4.heap[b]? = some (.cells #[v0, v1, v2, v3, a4, a5, a6, a7, a8, a9, a10] t) := by rw [← e4, heap_set h3]; simp only [List.setIfInBounds_toArray, List.set_cons_succ, List.set_cons_zero]
  have g4 : Gr b X3 X4 := e4 ▸ Gr.set b 3 X3 v3
  obtain ⟨X5, e5⟩ : ∃ X, X4.setCell ⟨b, 4, none⟩ v4 = X := ⟨_, rfl⟩
  have h5 : X5.heap[b]? = some (.cells #[v0, v1, v2, v3, v4, a5, a6, a7, a8, a9, a10] t) := by rw [← e5, heap_set h4]; simp only [List.setIfInBounds_toArray, List.set_cons_succ, List.set_cons_zero]
  have g5 : Gr b X4 X5 := e5 ▸ Gr.set b 4 X4 v4
  obtain ⟨X6, e6⟩ : ∃ X, X5.setCell ⟨b, 5, none⟩ v5 = X := ⟨_, rfl⟩
  have h6 : X6.heap[b]? = some (.cells #[v0, v1, v2, v3, v4, v5, a6, a7, a8, a9, a10] t) := by rw [← e6, heap_set h5]; simp only [List.setIfInBounds_toArray, List.set_cons_succ, List.set_cons_zero]
  have g6 : Gr b X5 X6 := e6 ▸ Gr.set b 5 X5 v5
  obtain ⟨X7, e7⟩ : ∃ X, X6.setCell ⟨b, 6, none⟩ v6 = X := ⟨_, rfl⟩
  have h7 : X7.heap[b]? = some (.cells #[v0, v1, v2, v3, v4, v5, v6, a7, a8, a9, a10] t) := by rw [← e7, heap_set h6]; simp only [List.setIfInBounds_toArray, List.set_cons_succ, List.set_cons_zero]
  have g7 : Gr b X6 X7 := e7 ▸ Gr.set b 6 X6 v6
  obtain ⟨X8, e8⟩ : ∃ X, X7.setCell ⟨b, 7, none⟩ v7 = X := ⟨_, rfl⟩
  have h8 : X8.heap[b]? = some (.cells #[v0, v1, v2, v3, v4, v5, v6, v7, a8, a9, a10] t) := by rw [← e8, heap_set h7]; simp only [List.setIfInBounds_toArray, List.set_cons_succ, List.set_cons_zero]
  have g8 : Gr b X7 X8 := e8 ▸ Gr.set b 7 X7 v7
  obtain ⟨X9, e9⟩ : ∃ X, X8.setCell ⟨b, 8, none⟩ v8 = X := ⟨_, rfl⟩
  have h9 : X9.heap[b]? = some (.cells #[v0, v1, v2, v3, v4, v5, v6, v7, v8, a9, a10] t) := by rw [← e9, heap_set h8]; simp only [List.setIfInBounds_toArray, List.set_cons_succ, List.set_cons_zero]
  have g9 : Gr b X8 X9 := e9 ▸ Gr.set b 8 X8 v8
  obtain ⟨X10, e10⟩ : ∃ X, X9.setCell ⟨b, 9, none⟩ v9 = X := ⟨_, rfl⟩
  have h10 : X10.heap[b]? = some (.cells #[v0, v1, v2, v3, v4, v5, v6, v7, v8, v9, a10] t) := by rw [← e10, heap_set h9]; simp only [List.setIfInBounds_toArray, List.set_cons_succ, List.set_cons_zero]
  have g10 : Gr b X9 X10 := e10 ▸ Gr.set b 9 X9 v9
  obtain ⟨X11, e11⟩ : ∃ X, X10.setCell ⟨b, 10, none⟩ v10 = X := ⟨_, rfl⟩
  have h11 : X11.heap[b]? = some (.cells #[v0, v1, v2, v3, v4, v5, v6, v7, v8, v9, v10] t) := by rw [← e11, heap_set h10]; simp only [List.setIfInBounds_toArray, List.set_cons_succ, List.set_cons_zero]
  have g11 : Gr b X10 X11 := e11 ▸ Gr.set b 10 X10 v10
  refine ⟨X1, X2, X3, X4, X5, X6, X7, X8, X9, X10, X11, ⟨e1, e2, e3, e4, e5, e6, e7, e8, e9, e10, e11⟩, ⟨?_, ?_, ?_, ?_, ?_, ?_, ?_, ?_, ?_, ?_, ?_⟩, ⟨frozen_of h _, frozen_of h1 _, frozen_of h2 _, frozen_of h3 _, frozen_of h4 _, frozen_of h5 _, frozen_of h6 _, frozen_of h7 _, frozen_of h8 _, frozen_of h9 _, frozen_of h10 _⟩, h11, ?_⟩
  · rw [cell_of h]; rfl
  · rw [cell_of h1]; rfl
  · rw [cell_of h2]; rfl
  · rw [cell_of h3]; rfl
  · rw [cell_of h4]; rfl
  · rw [cell_of h5]; rfl
  · rw [cell_of h6]; rfl
  · rw [cell_of h7]; rfl
  · rw [cell_of h8]; rfl
  · rw [cell_of h9]; rfl
  · rw [cell_of h10]; rfl
  · exact ((((((((((g1.trans g2).trans g3).trans g4).trans g5).trans g6).trans g7).trans g8).trans g9).trans g10).trans g11)
theorem store22 {W : World} {b : Nat} {t : TypeId} {a0 a1 a2 a3 a4 a5 a6 a7 a8 a9 a10 a11 a12 a13 a14 a15 a16 a17 a18 a19 a20 a21 : Value} (h : W.heap[b]? = some (.cells #[a0, a1, a2, a3, a4, a5, a6, a7, a8, a9, a10, a11, a12, a13, a14, a15, a16, a17, a18, a19, a20, a21] t)) (v0 v1 v2 v3 v4 v5 v6 v7 v8 v9 v10 v11 v12 v13 v14 v15 v16 v17 v18 v19 v20 v21 : Value) :
    ∃ X1 X2 X3 X4 X5 X6 X7 X8 X9 X10 X11 X12 X13 X14 X15 X16 X17 X18 X19 X20 X21 X22 : World, (W.setCell ⟨b, 0, none⟩ v0 = X1 ∧ X1.setCell ⟨b, 1, none⟩ v1 = X2 ∧ X2.setCell ⟨b, 2, none⟩ v2 = X3 ∧ X3.setCell ⟨b, 3, none⟩ v3 = X4 ∧ X4.setCell ⟨b, 4, none⟩ v4 = X5 ∧ X5.setCell ⟨b, 5, none⟩ v5 = X6 ∧ X6.setCell ⟨b, 6, none⟩ v6 = X7 ∧ X7.setCell ⟨b, 7, none⟩ v7 = X8 ∧ X8.setCell ⟨b, 8, none⟩ v8 = X9 ∧ X9.setCell ⟨b, 9, none⟩ v9 = X10 ∧ X10.setCell ⟨b, 10, none⟩ v10 = X11 ∧ X11.setCell ⟨b, 11, none⟩ v11 = X12 ∧ X12.setCell ⟨b, 12, none⟩ v12 = X13 ∧ X13.setCell ⟨b, 13, none⟩ v13 = X14 ∧ X14.setCell ⟨b, 14, none⟩ v14 = X15 ∧ X15.setCell ⟨b, 15, none⟩ v15 = X16 ∧ X16.setCell ⟨b, 16, none⟩ v16 = X17 ∧ X17.setCell ⟨b, 17, none⟩ v17 = X18 ∧ X18.setCell ⟨b, 18, none⟩ v18 = X19 ∧ X19.setCell ⟨b, 19, none⟩ v19 = X20 ∧ X20.setCell ⟨b, 20, none⟩ v20 = X21 ∧ X21.setCell ⟨b, 21, none⟩ v21 = X22) ∧
      (W.cell? ⟨b, 0, none⟩ = some a0 ∧ X1.cell? ⟨b, 1, none⟩ = some a1 ∧ X2.cell? ⟨b, 2, none⟩ = some a2 ∧ X3.cell? ⟨b, 3, none⟩ = some a3 ∧ X4.cell? ⟨b, 4, none⟩ = some a4 ∧ X5.cell? ⟨b, 5, none⟩ = some a5 ∧ X6.cell? ⟨b, 6, none⟩ = some a6 ∧ X7.cell? ⟨b, 7, none⟩ = some a7 ∧ X8.cell? ⟨b, 8, none⟩ = some a8 ∧ X9.cell? ⟨b, 9, none⟩ = some a9 ∧ X10.cell? ⟨b, 10, none⟩ = some a10 ∧ X11.cell? ⟨b, 11, none⟩ = some a11 ∧ X12.cell? ⟨b, 12, none⟩ = some a12 ∧ X13.cell? ⟨b, 13, none⟩ = some a13 ∧ X14.cell? ⟨b, 14, none⟩ = some a14 ∧ X15.cell? ⟨b, 15, none⟩ = some a15 ∧ X16.cell? ⟨b, 16, none⟩ = some a16 ∧ X17.cell? ⟨b, 17, none⟩ = some a17 ∧ X18.cell? ⟨b, 18, none⟩ = some a18 ∧ X19.cell? ⟨b, 19, none⟩ = some a19 ∧ X20.cell? ⟨b, 20, none⟩ = some a20 ∧ X21.cell? ⟨b, 21, none⟩ = some a21) ∧
      (W.frozen? ⟨b, 0, none⟩ = false ∧ X1.frozen? ⟨b, 1, none⟩ = false ∧ X2.frozen? ⟨b, 2, none⟩ = false ∧ X3.frozen? ⟨b, 3, none⟩ = false ∧ X4.frozen? ⟨b, 4, none⟩ = false ∧ X5.frozen? ⟨b, 5, none⟩ = false ∧ X6.frozen? ⟨b, 6, none⟩ = false ∧ X7.frozen? ⟨b, 7, none⟩ = false ∧ X8.frozen? ⟨b, 8, none⟩ = false ∧ X9.frozen? ⟨b, 9, none⟩ = false ∧ X10.frozen? ⟨b, 10, none⟩ = false ∧ X11.frozen? ⟨b, 11, none⟩ = false ∧ X12.frozen? ⟨b, 12, none⟩ = false ∧ X13.frozen? ⟨b, 13, none⟩ = false ∧ X14.frozen? ⟨b, 14, none⟩ = false ∧ X15.frozen? ⟨b, 15, none⟩ = false ∧ X16.frozen? ⟨b, 16, none⟩ = false ∧ X17.frozen? ⟨b, 17, none⟩ = false ∧ X18.frozen? ⟨b, 18, none⟩ = false ∧ X19.frozen? ⟨b, 19, none⟩ = false ∧ X20.frozen? ⟨b, 20, none⟩ = false ∧ X21.frozen? ⟨b, 21, none⟩ = false) ∧
      X22.heap[b]? = some (.cells #[v0, v1, v2, v3, v4, v5, v6, v7, v8, v9, v10, v11, v12, v13, v14, v15, v16, v17, v18, v19, v20, v21] t) ∧ Gr b W X22 := by
  obtain ⟨X1, e1⟩ : ∃ X, W.setCell ⟨b, 0, none⟩ v0 = X := ⟨_, rfl⟩
  have h1 : X1.heap[b]? = some (.cells #[v0, a1, a2, a3, a4, a5, a6, a7, a8, a9, a10, a11, a12, a13, a14, a15, a16, a17, a18, a19, a20, a21] t) := by rw [← e1, heap_set h]; simp only [List.setIfInBounds_toArray, List.set_cons_succ, List.set_cons_zero]
  have g1 : Gr b W X1 := e1 ▸ Gr.set b 0 W v0
  obtain ⟨X2, e2⟩ : ∃ X, X1.setCell ⟨b, 1, none⟩ v1 = X := ⟨_, rfl⟩
  have h2 : X2.heap[b]? = some (.cells #[v0, v1, a2, a3, a4, a5, a6, a7, a8, a9, a10, a11, a12, a13, a14, a15, a16, a17, a18, a19, a20, a21] t) := by rw [← e2, heap_set h1]; simp only [List.setIfInBounds_toArray, List.set_cons_succ, List.set_cons_zero]
  have g2 : Gr b X1 X2 := e2 ▸ Gr.set b 1 X1 v1
  obtain ⟨X3, e3⟩ : ∃ X, X2.setCell ⟨b, 2, none⟩ v2 = X := ⟨_, rfl⟩
  have h3 : X3.heap[b]? = some (.cells #[v0, v1, v2, a3, a4, a5, a6, a7, a8, a9, a10, a11, a12, a13, a14, a15, a16, a17, a18, a19, a20, a21] t) := by rw [← e3, heap_set h2]; simp only [List.setIfInBounds_toArray, List.set_cons_succ, List.set_cons_zero]
  have g3 : Gr b X2 X3 := e3 ▸ Gr.set b 2 X2 v2
  obtain ⟨X4, e4⟩ : ∃ X, X3.setCell ⟨b, 3, none⟩ v3 = X := ⟨_, rfl⟩
  have h4 : X4.heap[b]? = some (.cells #[v0, v1, v2, v3, a4, a5, a6, a7, a8, a9, a10, a11, a12, a13, a14, a15, a16, a17, a18, a19, a20, a21] t) := by rw [← e4, heap_set h3]; simp only [List.setIfInBounds_toArray, List.set_cons_succ, List.set_cons_zero]
  have g4 : Gr b X3 X4 := e4 ▸ Gr.set b 3 X3 v3
  obtain ⟨X5, e5⟩ : ∃ X, X4.setCell ⟨b, 4, none⟩ v4 = X := ⟨_, rfl⟩
  have h5 : X5.heap[b]? = some (.cells #[v0, v1, v2, v3, v4, a5, a6, a7, a8, a9, a10, a11, a12, a13, a14, a15, a16, a17, a18, a19, a20, a21] t) := by rw [← e5, heap_set h4]; simp only [List.setIfInBounds_toArray, List.set_cons_succ, List.set_cons_zero]
  have g5 : Gr b X4 X5 := e5 ▸ Gr.set b 4 X4 v4
  obtain ⟨X6, e6⟩ : ∃ X, X5.setCell ⟨b, 5, none⟩ v5 = X := ⟨_, rfl⟩
  have h6 : X6.heap[b]? = some (.cells #[v0, v1, v2, v3, v4, v5, a6, a7, a8, a9, a10, a11, a12, a13, a14, a15, a16, a17, a18, a19, a20, a21] t) := by rw [← e6, heap_set h5]; simp only [List.setIfInBounds_toArray, List.set_cons_succ, List.set_cons_zero]
  have g6 : Gr b X5 X6 := e6 ▸ Gr.set b 5 X5 v5
  obtain ⟨X7, e7⟩ : ∃ X, X6.setCell ⟨b, 6, none⟩ v6 = X := ⟨_, rfl⟩
  have h7 : X7.heap[b]? = some (.cells #[v0, v1, v2, v3, v4, v5, v6, a7, a8, a9, a10, a11, a12, a13, a14, a15, a16, a17, a18, a19, a20, a21] t) := by rw [← e7, heap_set h6]; simp only [List.setIfInBounds_toArray, List.set_cons_succ, List.set_cons_zero]
  have g7 : Gr b X6 X7 := e7 ▸ Gr.set b 6 X6 v6
  obtain ⟨X8, e8⟩ : ∃ X, X7.setCell ⟨b, 7, none⟩ v7 = X := ⟨_, rfl⟩
  have h8 : X8.heap[b]? = some (.cells #[v0, v1, v2, v3, v4, v5, v6, v7, a8, a9, a10, a11, a12, a13, a14, a15, a16, a17, a18, a19, a20, a21] t) := by rw [← e8, heap_set h7]; simp only [List.setIfInBounds_toArray, List.set_cons_succ, List.set_cons_zero]
  have g8 : Gr b X7 X8 := e8 ▸ Gr.set b 7 X7 v7
  obtain ⟨X9, e9⟩ : ∃ X, X8.setCell ⟨b, 8, none⟩ v8 = X := ⟨_, rfl⟩
  have h9 : X9.heap[b]? = some (.cells #[v0, v1, v2, v3, v4, v5, v6, v7, v8, a9, a10, a11, a12, a13, a14, a15, a16, a17, a18, a19, a20, a21] t) := by rw [← e9, heap_set h8]; simp only [List.setIfInBounds_toArray, List.set_cons_succ, List.set_cons_zero]
  have g9 : Gr b X8 X9 := e9 ▸ Gr.set b 8 X8 v8
  obtain ⟨X10, e10⟩ : ∃ X, X9.setCell ⟨b, 9, none⟩ v9 = X := ⟨_, rfl⟩
  have h10 : X10.heap[b]? = some (.cells #[v0, v1, v2, v3, v4, v5, v6, v7, v8, v9, a10, a11, a12, a13, a14, a15, a16, a17, a18, a19, a20, a21] t) := by rw [← e10, heap_set h9]; simp only [List.setIfInBounds_toArray, List.set_cons_succ, List.set_cons_zero]
  have g10 : Gr b X9 X10 := e10 ▸ Gr.set b 9 X9 v9
  obtain ⟨X11, e11⟩ : ∃ X, X10.setCell ⟨b, 10, none⟩ v10 = X := ⟨_, rfl⟩
  have h11 : X11.heap[b]? = some (.cells #[v0, v1, v2, v3, v4, v5, v6, v7, v8, v9, v10, a11, a12, a13, a14, a15, a16, a17, a18, a19, a20, a21] t) := by rw [← e11, heap_set h10]; simp only [List.setIfInBounds_toArray, List.set_cons_succ, List.set_cons_zero]
  have g11 : Gr b X10 X11 := e11 ▸ Gr.set b 10 X10 v10
  obtain ⟨X12, e12⟩ : ∃ X, X11.setCell ⟨b, 11, none⟩ v11 = X := ⟨_, rfl⟩
  have h12 : X12.heap[b]? = some (.cells #[v0, v1, v2, v3, v4, v5, v6, v7, v8, v9, v10, v11, a12, a13, a14, a15, a16, a17, a18, a19, a20, a21] t) := by rw [← e12, heap_set h11]; simp only [List.setIfInBounds_toArray, List.set_cons_succ, List.set_cons_zero]
  have g12 : Gr b X11 X12 := e12 ▸ Gr.set b 11 X11 v11
  obtain ⟨X13, e13⟩ : ∃ X, X12.setCell ⟨b, 12, none⟩ v12 = X := ⟨_, rfl⟩
  have h13 : X13.heap[b]? = some (.cells #[v0, v1, v2, v3, v4, v5, v6, v7, v8, v9, v10, v11, v12, a13, a14, a15, a16, a17, a18, a19, a20, a21] t) := by rw [← e13, heap_set h12]; simp only [List.setIfInBounds_toArray, List.set_cons_succ, List.set_cons_zero]
  have g13 : Gr b X12 X13 := e13 ▸ Gr.set b 12 X12 v12
  obtain ⟨X14, e14⟩ : ∃ X, X13.setCell ⟨b, 13, none⟩ v13 = X := ⟨_, rfl⟩
  have h14 : X14.heap[b]? = some (.cells #[v0, v1, v2, v3, v4, v5, v6, v7, v8, v9, v10, v11, v12, v13, a14, a15, a16, a17, a18, a19, a20, a21] t) := by rw [← e14, heap_set h13]; simp only [List.setIfInBounds_toArray, List.set_cons_succ, List.set_cons_zero]
  have g14 : Gr b X13 X14 := e14 ▸ Gr.set b 13 X13 v13
  obtain ⟨X15, e15⟩ : ∃ X, X14.setCell ⟨b, 14, none⟩ v14 = X := ⟨_, rfl⟩
  have h15 : X15.heap[b]? = some (.cells #[v0, v1, v2, v3, v4, v5, v6, v7, v8, v9, v10, v11, v12, v13, v14, a15, a16, a17, a18, a19, a20, a21] t) := by rw [← e15, heap_set h14]; simp only [List.setIfInBounds_toArray, List.set_cons_succ, List.set_cons_zero]
  have g15 : Gr b X14 X15 := e15 ▸ Gr.set b 14 X14 v14
  obtain ⟨X16, e16⟩ : ∃ X, X15.setCell ⟨b, 15, none⟩ v15 = X := ⟨_, rfl⟩
  have h16 : X16.heap[b]? = some (.cells #[v0, v1, v2, v3, v4, v5, v6, v7, v8, v9, v10, v11, v12, v13, v14, v15, a16, a17, a18, a19, a20, a21] t) := by rw [← e16, heap_set h15]; simp only [List.setIfInBounds_toArray, List.set_cons_succ, List.set_cons_zero]
  have g16 : Gr b X15 X16 := e16 ▸ Gr.set b 15 X15 v15
  obtain ⟨X17, e17⟩ : ∃ X, X16.setCell ⟨b, 16, none⟩ v16 = X := ⟨_, rfl⟩
  have h17 : X17.heap[b]? = some (.cells #[v0, v1, v2, v3, v4, v5, v6, v7, v8, v9, v10, v11, v12, v13, v14, v15, v16, a17, a18, a19, a20, a21] t) := by rw [← e17, heap_set h16]; simp only [List.setIfInBounds_toArray, List.set_cons_succ, List.set_cons_zero]
  have g17 : Gr b X16 X17 := e17 ▸ Gr.set b 16 X16 v16
  obtain ⟨X18, e18⟩ : ∃ X, X17.setCell ⟨b, 17, none⟩ v17 = X := ⟨_, rfl⟩
  have h18 : X18.heap[b]? = some (.cells #[v0, v1, v2, v3, v4, v5, v6, v7, v8, v9, v10, v11, v12, v13, v14, v15, v16, v17, a18, a19, a20, a21] t) := by rw [← e18, heap_set h17]; simp only [List.setIfInBounds_toArray, List.set_cons_succ, List.set_cons_zero]
  have g18 : Gr b X17 X18 := e18 ▸ Gr.set b 17 X17 v17
  obtain ⟨X19, e19⟩ : ∃ X, X18.setCell ⟨b, 18, none⟩ v18 = X := ⟨_, rfl⟩
  have h19 : X19.heap[b]? = some (.cells #[v0, v1, v2, v3, v4, v5, v6, v7, v8, v9, v10, v11, v12, v13, v14, v15, v16, v17, v18, a19, a20, a21] t) := by rw [← e19, heap_set h18]; simp only [List.setIfInBounds_toArray, List.set_cons_succ, List.set_cons_zero]
  have g19 : Gr b X18 X19 := e19 ▸ Gr.set b 18 X18 v18
  obtain ⟨X20, e20⟩ : ∃ X, X19.setCell ⟨b, 19, none⟩ v19 = X := ⟨_, rfl⟩
  have h20 : X20.heap[b]? = some (.cells #[v0, v1, v2, v3, v4, v5, v6, v7, v8, v9, v10, v11, v12, v13, v14, v15, v16, v17, v18, v19, a20, a21] t) := by rw [← e20, heap_set h19]; simp only [List.setIfInBounds_toArray, List.set_cons_succ, List.set_cons_zero]
  have g20 : Gr b X19 X20 := e20 ▸ Gr.set b 19 X19 v19
  obtain ⟨X21, e21⟩ : ∃ X, X20.setCell ⟨b, 20, none⟩ v20 = X := ⟨_, rfl⟩
  have h21 : X21.heap[b]? = some (.cells #[v0, v1, v2, v3, v4, v5, v6, v7, v8, v9, v10, v11, v12, v13, v14, v15, v16, v17, v18, v19, v20, a21] t) := by rw [← e21, heap_set h20]; simp only [List.setIfInBounds_toArray, List.set_cons_succ, List.set_cons_zero]
  have g21 : Gr b X20 X21 := e21 ▸ Gr.set b 20 X20 v20
  obtain ⟨X22, e22⟩ : ∃ X, X21.setCell ⟨b, 21, none⟩ v21 = X := ⟨_, rfl⟩
  have h22 : X22.heap[b]? = some (.cells #[v0, v1, v2, v3, v4, v5, v6, v7, v8, v9, v10, v11, v12, v13, v14, v15, v16, v17, v18, v19, v20, v21] t) := by rw [← e22, heap_set h21]; simp only [List.setIfInBounds_toArray, List.set_cons_succ, List.set_cons_zero]
  have g22 : Gr b X21 X22 := e22 ▸ Gr.set b 21 X21 v21
  refine ⟨X1, X2, X3, X4, X5, X6, X7, X8, X9, X10, X11, X12, X13, X14, X15, X16, X17, X18, X19, X20, X21, X22, ⟨e1, e2, e3, e4, e5, e6, e7, e8, e9, e10, e11, e12, e13, e14, e15, e16, e17, e18, e19, e20, e21, e22⟩, ⟨?_, ?_, ?_, ?_, ?_, ?_, ?_, ?_, ?_, ?_, ?_, ?_, ?_, ?_, ?_, ?_, ?_, ?_, ?_, ?_, ?_, ?_⟩, ⟨frozen_of h _, frozen_of h1 _, frozen_of h2 _, frozen_of h3 _, frozen_of h4 _, frozen_of h5 _, frozen_of h6 _, frozen_of h7 _, frozen_of h8 _, frozen_of h9 _, frozen_of h10 _, frozen_of h11 _, frozen_of h12 _, frozen_of h13 _, frozen_of h14 _, frozen_of h15 _, frozen_of h16 _, frozen_of h17 _, frozen_of h18 _, frozen_of h19 _, frozen_of h20 _, frozen_of h21 _⟩, h22, ?_⟩
  · rw [cell_of h]; rfl
  · rw [cell_of h1]; rfl
  · rw [cell_of h2]; rfl
  · rw [cell_of h3]; rfl
  · rw [cell_of h4]; rfl
  · rw [cell_of h5]; rfl
  · rw [cell_of h6]; rfl
  · rw [cell_of h7]; rfl
  · rw [cell_of h8]; rfl
  · rw [cell_of h9]; rfl
  · rw [cell_of h10]; rfl
  · rw [cell_of h11]; rfl
  · rw [cell_of h12]; rfl
  · rw [cell_of h13]; rfl
  · rw [cell_of h14]; rfl
  · rw [cell_of h15]; rfl
  · rw [cell_of h16]; rfl
  · rw [cell_of h17]; rfl
  · rw [cell_of h18]; rfl
  · rw [cell_of h19]; rfl
  · rw [cell_of h20]; rfl
  · rw [cell_of h21]; rfl
  · exact (((((((((((((((((((((g1.trans g2).trans g3).trans g4).trans g5).trans g6).trans g7).trans g8).trans g9).trans g10).trans g11).trans g12).trans g13).trans g14).trans g15).trans g16).trans g17).trans g18).trans g19).trans g20).trans g21).trans g22)
theorem store23 {W : World} {b : Nat} {t : TypeId} {a0 a1 a2 a3 a4 a5 a6 a7 a8 a9 a10 a11 a12 a13 a14 a15 a16 a17 a18 a19 a20 a21 a22 : Value} (h : W.heap[b]? = some (.cells #[a0, a1, a2, a3, a4, a5, a6, a7, a8, a9, a10, a11, a12, a13, a14, a15, a16, a17, a18, a19, a20, a21, a22] t)) (v0 v1 v2 v3 v4 v5 v6 v7 v8 v9 v10 v11 v12 v13 v14 v15 v16 v17 v18 v19 v20 v21 v22 : Value) :
    ∃ X1 X2 X3 X4 X5 X6 X7 X8 X9 X10 X11 X12 X13 X14 X15 X16 X17 X18 X19 X20 X21 X22 X23 : World, (W.setCell ⟨b, 0, none⟩ v0 = X1 ∧ X1.setCell ⟨b, 1, none⟩ v1 = X2 ∧ X2.setCell ⟨b, 2, none⟩ v2 = X3 ∧ X3.setCell ⟨b, 3, none⟩ v3 = X4 ∧ X4.setCell ⟨b, 4, none⟩ v4 = X5 ∧ X5.setCell ⟨b, 5, none⟩ v5 = X6 ∧ X6.setCell ⟨b, 6, none⟩ v6 = X7 ∧ X7.setCell ⟨b, 7, none⟩ v7 = X8 ∧ X8.setCell ⟨b, 8, none⟩ v8 = X9 ∧ X9.setCell ⟨b, 9, none⟩ v9 = X10 ∧ X10.setCell ⟨b, 10, none⟩ v10 = X11 ∧ X11.setCell ⟨b, 11, none⟩ v11 = X12 ∧ X12.setCell ⟨b, 12, none⟩ v12 = X13 ∧ X13.setCell ⟨b, 13, none⟩ v13 = X14 ∧ X14.setCell ⟨b, 14, none⟩ v14 = X15 ∧ X15.setCell ⟨b, 15, none⟩ v15 = X16 ∧ X16.setCell ⟨b, 16, none⟩ v16 = X17 ∧ X17.setCell ⟨b, 17, none⟩ v17 = X18 ∧ X18.setCell ⟨b, 18, none⟩ v18 = X19 ∧ X19.setCell ⟨b, 19, none⟩ v19 = X20 ∧ X20.setCell ⟨b, 20, none⟩ v20 = X21 ∧ X21.setCell ⟨b, 21, none⟩ v21 = X22 ∧ X22.setCell ⟨b, 22, none⟩ v22 = X23) ∧
      (W.cell? ⟨b, 0, none⟩ = some a0 ∧ X1.cell? ⟨b, 1, none⟩ = some a1 ∧ X2.cell? ⟨b, 2, none⟩ = some a2 ∧ X3.cell? ⟨b, 3, none⟩ = some a3 ∧ X4.cell? ⟨b, 4, none⟩ = some a4 ∧ X5.cell? ⟨b, 5, none⟩ = some a5 ∧ X6.cell? ⟨b, 6, none⟩ = some a6 ∧ X7.cell? ⟨b, 7, none⟩ = some a7 ∧ X8.cell? ⟨b, 8, none⟩ = some a8 ∧ X9.cell? ⟨b, 9, none⟩ = some a9 ∧ X10.cell? ⟨b, 10, none⟩ = some a10 ∧ X11.cell? ⟨b, 11, none⟩ = some a11 ∧ X12.cell? ⟨b, 12, none⟩ = some a12 ∧ X13.cell? ⟨b, 13, none⟩ = some a13 ∧ X14.cell? ⟨b, 14, none⟩ = some a14 ∧ X15.cell? ⟨b, 15, none⟩ = some a15 ∧ X16.cell? ⟨b, 16, none⟩ = some a16 ∧ X17.cell? ⟨b, 17, none⟩ = some a17 ∧ X18.cell? ⟨b, 18, none⟩ = some a18 ∧ X19.cell? ⟨b, 19, none⟩ = some a19 ∧ X20.cell? ⟨b, 20, none⟩ = some a20 ∧ X21.cell? ⟨b, 21, none⟩ = some a21 ∧ X22.cell? ⟨b, 22, none⟩ = some a22) ∧
      (W.frozen? ⟨b, 0, none⟩ = false ∧ X1.frozen? ⟨b, 1, none⟩ = false ∧ X2.frozen? ⟨b, 2, none⟩ = false ∧ X3.frozen? ⟨b, 3, none⟩ = false ∧ X4.frozen? ⟨b, 4, none⟩ = false ∧ X5.frozen? ⟨b, 5, none⟩ = false ∧ X6.frozen? ⟨b, 6, none⟩ = false ∧ X7.frozen? ⟨b, 7, none⟩ = false ∧ X8.frozen? ⟨b, 8, none⟩ = false ∧ X9.frozen? ⟨b, 9, none⟩ = false ∧ X10.frozen? ⟨b, 10, none⟩ = false ∧ X11.frozen? ⟨b, 11, none⟩ = false ∧ X12.frozen? ⟨b, 12, none⟩ = false ∧ X13.frozen? ⟨b, 13, none⟩ = false ∧ X14.frozen? ⟨b, 14, none⟩ = false ∧ X15.frozen? ⟨b, 15, none⟩ = false ∧ X16.frozen? ⟨b, 16, none⟩ = false ∧ X17.frozen? ⟨b, 17, none⟩ = false ∧ X18.frozen? ⟨b, 18, none⟩ = false ∧ X19.frozen? ⟨b, 19, none⟩ = false ∧ X20.frozen? ⟨b, 20, none⟩ = false ∧ X21.frozen? ⟨b, 21, none⟩ = false ∧ X22.frozen? ⟨b, 22, none⟩ = false) ∧
      X23.heap[b]? = some (.cells #[v0, v1, v2, v3, v4, v5, v6, v7, v8, v9, v10, v11, v12, v13, v14, v15, v16, v17, v18, v19, v20, v21, v22] t) ∧ Gr b W X23 := by
  obtain ⟨X1, e1⟩ : ∃ X, W.setCell ⟨b, 0, none⟩ v0 = X := ⟨_, rfl⟩
  have h1 : X1.heap[b]? = some (.cells #[v0, a1, a2, a3, a4, a5, a6, a7, a8, a9, a10, a11, a12, a13, a14, a15, a16, a17, a18, a19, a20, a21, a22] t) := by rw [← e1, heap_set h]; simp only [List.setIfInBounds_toArray, List.set_cons_succ, List.set_cons_zero]
  have g1 : Gr b W X1 := e1 ▸ Gr.set b 0 W v0
  obtain ⟨X2, e2⟩ : ∃ X, X1.setCell ⟨b, 1, none⟩ v1 = X := ⟨_, rfl⟩
  have h2 : X2.heap[b]? = some (.cells #[v0, v1, a2, a3, a4, a5, a6, a7, a8, a9, a10, a11, a12, a13, a14, a15, a16, a17, a18, a19, a20, a21, a22] t) := by rw [← e2, heap_set h1]; simp only [List.setIfInBounds_toArray, List.set_cons_succ, List.set_cons_zero]
  have g2 : Gr b X1 X2 := e2 ▸ Gr.set b 1 X1 v1
  obtain ⟨X3, e3⟩ : ∃ X, X2.setCell ⟨b, 2, none⟩ v2 = X := ⟨_, rfl⟩
  have h3 : X3.heap[b]? = some (.cells #[v0, v1, v2, a3, a4, a5, a6, a7, a8, a9, a10, a11, a12, a13, a14, a15, a16, a17, a18, a19, a20, a21, a22] t) := by rw [← e3, heap_set h2]; simp only [List.setIfInBounds_toArray, List.set_cons_succ, List.set_cons_zero]
  have g3 : Gr b X2 X3 := e3 ▸ Gr.set b 2 X2 v2
  obtain ⟨X4, e4⟩ : ∃ X, X3.setCell ⟨b, 3, none⟩ v3 = X := ⟨_, rfl⟩
  have h4 : X4.heap[b]? = some (.cells #[v0, v1, v2, v3, a4, a5, a6, a7, a8, a9, a10, a11, a12, a13, a14, a15, a16, a17, a18, a19, a20, a21, a22] t) := by rw [← e4, heap_set h3]; simp only [List.setIfInBounds_toArray, List.set_cons_succ, List.set_cons_zero]
  have g4 : Gr b X3 X4 := e4 ▸ Gr.set b 3 X3 v3
  obtain ⟨X5, e5⟩ : ∃ X, X4.setCell ⟨b, 4, none⟩ v4 = X := ⟨_, rfl⟩
  have h5 : X5.heap[b]? = some (.cells #[v0, v1, v2, v3, v4, a5, a6, a7, a8, a9, a10, a11, a12, a13, a14, a15, a16, a17, a18, a19, a20, a21, a22] t) := by rw [← e5, heap_set h4]; simp only [List.setIfInBounds_toArray, List.set_cons_succ, List.set_cons_zero]
  have g5 : Gr b X4 X5 := e5 ▸ Gr.set b 4 X4 v4
  obtain ⟨X6, e6⟩ : ∃ X, X5.setCell ⟨b, 5, none⟩ v5 = X := ⟨_, rfl⟩
  have h6 : X6.heap[b]? = some (.cells #[v0, v1, v2, v3, v4, v5, a6, a7, a8, a9, a10, a11, a12, a13, a14, a15, a16, a17, a18, a19, a20, a21, a22] t) := by rw [← e6, heap_set h5]; simp only [List.setIfInBounds_toArray, List.set_cons_succ, List.set_cons_zero]
  have g6 : Gr b X5 X6 := e6 ▸ Gr.set b 5 X5 v5
  obtain ⟨X7, e7⟩ : ∃ X, X6.setCell ⟨b, 6, none⟩ v6 = X := ⟨_, rfl⟩
  have h7 : X7.heap[b]? = some (.cells #[v0, v1, v2, v3, v4, v5, v6, a7, a8, a9, a10, a11, a12, a13, a14, a15, a16, a17, a18, a19, a20, a21, a22] t) := by rw [← e7, heap_set h6]; simp only [List.setIfInBounds_toArray, List.set_cons_succ, List.set_cons_zero]
  have g7 : Gr b X6 X7 := e7 ▸ Gr.set b 6 X6 v6
  obtain ⟨X8, e8⟩ : ∃ X, X7.setCell ⟨b, 7, none⟩ v7 = X := ⟨_, rfl⟩
  have h8 : X8.heap[b]? = some (.cells #[v0, v1, v2, v3, v4, v5, v6, v7, a8, a9, a10, a11, a12, a13, a14, a15, a16, a17, a18, a19, a20, a21, a22] t) := by rw [← e8, heap_set h7]; simp only [List.setIfInBounds_toArray, List.set_cons_succ, List.set_cons_zero]
  have g8 : Gr b X7 X8 := e8 ▸ Gr.set b 7 X7 v7
  obtain ⟨X9, e9⟩ : ∃ X, X8.setCell ⟨b, 8, none⟩ v8 = X := ⟨_, rfl⟩
  have h9 : X9.heap[b]? = some (.cells #[v0, v1, v2, v3, v4, v5, v6, v7, v8, a9, a10, a11, a12, a13, a14, a15, a16, a17, a18, a19, a20, a21, a22] t) := by rw [← e9, heap_set h8]; simp only [List.setIfInBounds_toArray, List.set_cons_succ, List.set_cons_zero]
  have g9 : Gr b X8 X9 := e9 ▸ Gr.set b 8 X8 v8
  obtain ⟨X10, e10⟩ : ∃ X, X9.setCell ⟨b, 9, none⟩ v9 = X := ⟨_, rfl⟩
  have h10 : X10.heap[b]? = some (.cells #[v0, v1, v2, v3, v4, v5, v6, v7, v8, v9, a10, a11, a12, a13, a14, a15, a16, a17, a18, a19, a20, a21, a22] t) := by rw [← e10, heap_set h9]; simp only [List.setIfInBounds_toArray, List.set_cons_succ, List.set_cons_zero]
  have g10 : Gr b X9 X10 := e10 ▸ Gr.set b 9 X9 v9
  obtain ⟨X11, e11⟩ : ∃ X, X10.setCell ⟨b, 10, none⟩ v10 = X := ⟨_, rfl⟩
  have h11 : X11.heap[b]? = some (.cells #[v0, v1, v2, v3, v4, v5, v6, v7, v8, v9, v10, a11, a12, a13, a14, a15, a16, a17, a18, a19, a20, a21, a22] t) := by rw [← e11, heap_set h10]; simp only [List.setIfInBounds_toArray, List.set_cons_succ, List.set_cons_zero]
  have g11 : Gr b X10 X11 := e11 ▸ Gr.set b 10 X10 v10
  obtain ⟨X12, e12⟩ : ∃ X, X11.setCell ⟨b, 11, none⟩ v11 = X := ⟨_, rfl⟩
  have h12 : X12.heap[b]? = some (.cells #[v0, v1, v2, v3, v4, v5, v6, v7, v8, v9, v10, v11, a12, a13, a14, a15, a16, a17, a18, a19, a20, a21, a22] t) := by rw [← e12, heap_set h11]; simp only [List.setIfInBounds_toArray, List.set_cons_succ, List.set_cons_zero]
  have g12 : Gr b X11 X12 := e12 ▸ Gr.set b 11 X11 v11
  obtain ⟨X13, e13⟩ : ∃ X, X12.setCell ⟨b, 12, none⟩ v12 = X := ⟨_, rfl⟩
  have h13 : X13.heap[b]? = some (.cells #[v0, v1, v2, v3, v4, v5, v6, v7, v8, v9, v10, v11, v12, a13, a14, a15, a16, a17, a18, a19, a20, a21, a22] t) := by rw [← e13, heap_set h12]; simp only [List.setIfInBounds_toArray, List.set_cons_succ, List.set_cons_zero]
  have g13 : Gr b X12 X13 := e13 ▸ Gr.set b 12 X12 v12
  obtain ⟨X14, e14⟩ : ∃ X, X13.setCell ⟨b, 13, none⟩ v13 = X := ⟨_, rfl⟩
  have h14 : X14.heap[b]? = some (.cells #[v0, v1, v2, v3, v4, v5, v6, v7, v8, v9, v10, v11, v12, v13, a14, a15, a16, a17, a18, a19, a20, a21, a22] t) := by rw [← e14, heap_set h13]; simp only [List.setIfInBounds_toArray, List.set_cons_succ, List.set_cons_zero]
  have g14 : Gr b X13 X14 := e14 ▸ Gr.set b 13 X13 v13
  obtain ⟨X15, e15⟩ : ∃ X, X14.setCell ⟨b, 14, none⟩ v14 = X := ⟨_, rfl⟩
  have h15 : X15.heap[b]? = some (.cells #[v0, v1, v2, v3, v4, v5, v6, v7, v8, v9, v10, v11, v12, v13, v14, a15, a16, a17, a18, a19, a20, a21, a22] t) := by rw [← e15, heap_set h14]; simp only [List.setIfInBounds_toArray, List.set_cons_succ, List.set_cons_zero]
  have g15 : Gr b X14 X15 := e15 ▸ Gr.set b 14 X14 v14
  obtain ⟨X16, e16⟩ : ∃ X, X15.setCell ⟨b, 15, none⟩ v15 = X := ⟨_, rfl⟩
  have h16 : X16.heap[b]? = some (.cells #[v0, v1, v2, v3, v4, v5, v6, v7, v8, v9, v10, v11, v12, v13, v14, v15, a16, a17, a18, a19, a20, a21, a22] t) := by rw [← e16, heap_set h15]; simp only [List.setIfInBounds_toArray, List.set_cons_succ, List.set_cons_zero]
  have g16 : Gr b X15 X16 := e16 ▸ Gr.set b 15 X15 v15
  obtain ⟨X17, e17⟩ : ∃ X, X16.setCell ⟨b, 16, none⟩ v16 = X := ⟨_, rfl⟩
  have h17 : X17.heap[b]? = some (.cells #[v0, v1, v2, v3, v4, v5, v6, v7, v8, v9, v10, v11, v12, v13, v14, v15, v16, a17, a18, a19, a20, a21, a22] t) := by rw [← e17, heap_set h16]; simp only [List.setIfInBounds_toArray, List.set_cons_succ, List.set_cons_zero]
  have g17 : Gr b X16 X17 := e17 ▸ Gr.set b 16 X16 v16
  obtain ⟨X18, e18⟩ : ∃ X, X17.setCell ⟨b, 17, none⟩ v17 = X := ⟨_, rfl⟩
  have h18 : X18.heap[b]? = some (.cells #[v0, v1, v2, v3, v4, v5, v6, v7, v8, v9, v10, v11, v12, v13, v14, v15, v16, v17, a18, a19, a20, a21, a22] t) := by rw [← e18, heap_set h17]; simp only [List.setIfInBounds_toArray, List.set_cons_succ, List.set_cons_zero]
  have g18 : Gr b X17 X18 := e18 ▸ Gr.set b 17 X17 v17
  obtain ⟨X19, e19⟩ : ∃ X, X18.setCell ⟨b, 18, none⟩ v18 = X := ⟨_, rfl⟩
  have h19 : X19.heap[b]? = some (.cells #[v0, v1, v2, v3, v4, v5, v6, v7, v8, v9, v10, v11, v12, v13, v14, v15, v16, v17, v18, a19, a20, a21, a22] t) := by rw [← e19, heap_set h18]; simp only [List.setIfInBounds_toArray, List.set_cons_succ, List.set_cons_zero]
  have g19 : Gr b X18 X19 := e19 ▸ Gr.set b 18 X18 v18
  obtain ⟨X20, e20⟩ : ∃ X, X19.setCell ⟨b, 19, none⟩ v19 = X := ⟨_, rfl⟩
  have h20 : X20.heap[b]? = some (.cells #[v0, v1, v2, v3, v4, v5, v6, v7, v8, v9, v10, v11, v12, v13, v14, v15, v16, v17, v18, v19, a20, a21, a22] t) := by rw [← e20, heap_set h19]; simp only [List.setIfInBounds_toArray, List.set_cons_succ, List.set_cons_zero]
  have g20 : Gr b X19 X20 := e20 ▸ Gr.set b 19 X19 v19
  obtain ⟨X21, e21⟩ : ∃ X, X20.setCell ⟨b, 20, none⟩ v20 = X := ⟨_, rfl⟩
  have h21 : X21.heap[b]? = some (.cells #[v0, v1, v2, v3, v4, v5, v6, v7, v8, v9, v10, v11, v12, v13, v14, v15, v16, v17, v18, v19, v20, a21, a22] t) := by rw [← e21, heap_set h20]; simp only [List.setIfInBounds_toArray, List.set_cons_succ, List.set_cons_zero]
  have g21 : Gr b X20 X21 := e21 ▸ Gr.set b 20 X20 v20
  obtain ⟨X22, e22⟩ : ∃ X, X21.setCell ⟨b, 21, none⟩ v21 = X := ⟨_, rfl⟩
  have h22 : X22.heap[b]? = some (.cells #[v0, v1, v2, v3, v4, v5, v6, v7, v8, v9, v10, v11, v12, v13, v14, v15, v16, v17, v18, v19, v20, v21, a22] t) := by rw [← e22, heap_set h21]; simp only [List.setIfInBounds_toArray, List.set_cons_succ, List.set_cons_zero]
  have g22 : Gr b X21 X22 := e22 ▸ Gr.set b 21 X21 v21
  obtain ⟨X23, e23⟩ : ∃ X, X22.setCell ⟨b, 22, none⟩ v22 = X := ⟨_, rfl⟩
  have h23 : X23.heap[b]? = some (.cells #[v0, v1, v2, v3, v4, v5, v6, v7, v8, v9, v10, v11, v12, v13, v14, v15, v16, v17, v18, v19, v20, v21, v22] t) := by rw [← e23, heap_set h22]; simp only [List.setIfInBounds_toArray, List.set_cons_succ, List.set_cons_zero]
  have g23 : Gr b X22 X23 := e23 ▸ Gr.set b 22 X22 v22
  refine ⟨X1, X2, X3, X4, X5, X6, X7, X8, X9, X10, X11, X12, X13, X14, X15, X16, X17, X18, X19, X20, X21, X22, X23, ⟨e1, e2, e3, e4, e5, e6, e7, e8, e9, e10, e11, e12, e13, e14, e15, e16, e17, e18, e19, e20, e21, e22, e23⟩, ⟨?_, ?_, ?_, ?_, ?_, ?_, ?_, ?_, ?_, ?_, ?_, ?_, ?_, ?_, ?_, ?_, ?_, ?_, ?_, ?_, ?_, ?_, ?_⟩, ⟨frozen_of h _, frozen_of h1 _, frozen_of h2 _, frozen_of h3 _, frozen_of h4 _, frozen_of h5 _, frozen_of h6 _, frozen_of h7 _, frozen_of h8 _, frozen_of h9 _, frozen_of h10 _, frozen_of h11 _, frozen_of h12 _, frozen_of h13 _, frozen_of h14 _, frozen_of h15 _, frozen_of h16 _, frozen_of h17 _, frozen_of h18 _, frozen_of h19 _, frozen_of h20 _, frozen_of h21 _, frozen_of h22 _⟩, h23, ?_⟩
  · rw [cell_of h]; rfl
  · rw [cell_of h1]; rfl
  · rw [cell_of h2]; rfl
  · rw [cell_of h3]; rfl
  · rw [cell_of h4]; rfl
  · rw [cell_of h5]; rfl
  · rw [cell_of h6]; rfl
  · rw [cell_of h7]; rfl
  · rw [cell_of h8]; rfl
  · rw [cell_of h9]; rfl
  · rw [cell_of h10]; rfl
  · rw [cell_of h11]; rfl
  · rw [cell_of h12]; rfl
  · rw [cell_of h13]; rfl
  · rw [cell_of h14]; rfl
  · rw [cell_of h15]; rfl
  · rw [cell_of h16]; rfl
  · rw [cell_of h17]; rfl
  · rw [cell_of h18]; rfl
  · rw [cell_of h19]; rfl
  · rw [cell_of h20]; rfl
  · rw [cell_of h21]; rfl
  · rw [cell_of h22]; rfl
  · exact ((((((((((((((((((((((g1.trans g2).trans g3).trans g4).trans g5).trans g6).trans g7).trans g8).trans g9).trans g10).trans g11).trans g12).trans g13).trans g14).trans g15).trans g16).trans g17).trans g18).trans g19).trans g20).trans g21).trans g22).trans g23)
/-- A slice. -/
structure Sl where
  a : Option Addr
  n : Nat
  c : Nat
abbrev Sl.v (s : Sl) : Value := .slice s.a s.n s.c
abbrev sl0 : Sl := ⟨none, 0, 0⟩
abbrev Cc.cs (x : Cc) (d : Sl) : Array Value := #[I x.op, S x.path, S x.dst, I x.fd, I x.fl, I x.mo, I x.n, I x.m, d.v]
abbrev Rr.cs (r : Rr) (d m : Sl) : Array Value := #[I r.why, I r.n, d.v, m.v, I r.node, I r.kind, I r.mode, I r.uid, I r.gid, I r.links, I r.size]
/-- A call with its places, and where its lists lie. -/
structure Om where
  o : Op
  d : Sl
  rd : Sl
  rn : Sl
abbrev Om.cs (x : Om) : Array Value := #[I x.o.thread, I x.o.c.op, S x.o.c.path, S x.o.c.dst, I x.o.c.fd, I x.o.c.fl, I x.o.c.mo, I x.o.c.n, I x.o.c.m, x.d.v, I x.o.r.why, I x.o.r.n, x.rd.v, x.rn.v, I x.o.r.node, I x.o.r.kind, I x.o.r.mode, I x.o.r.uid, I x.o.r.gid, I x.o.r.links, I x.o.r.size, I x.o.fr, I x.o.tt]
/-- An event, and where its lists lie. -/
structure Em where
  e : Ev
  d : Sl
  rd : Sl
  rn : Sl
abbrev Em.cs (x : Em) : Array Value := #[I x.e.kind, I x.e.thread, I x.e.c.op, S x.e.c.path, S x.e.c.dst, I x.e.c.fd, I x.e.c.fl, I x.e.c.mo, I x.e.c.n, I x.e.c.m, x.d.v, I x.e.r.why, I x.e.r.n, x.rd.v, x.rn.v, I x.e.r.node, I x.e.r.kind, I x.e.r.mode, I x.e.r.uid, I x.e.r.gid, I x.e.r.links, I x.e.r.size]

/-- Blocks that stay while Ops goes on: those that came in, and rows of bytes and of texts. -/
def Lo (W : World) (h b : Nat) : Prop := b < h ∨ ∃ cs t f, W.heap[b]? = some (.cells cs t f) ∧ (t = 5 ∨ t = 9)
structure Kt (h : Nat) (w w' : World) : Prop where
  be : Below h w w'
  ok : ∀ (b : Nat) (cs : Array Value) (t : TypeId) (f : Nat × Nat), w.heap[b]? = some (.cells cs t f) → (t = 5 ∨ t = 9) → w'.heap[b]? = some (.cells cs t f)
theorem Kt.refl (h : Nat) (w : World) : Kt h w w := ⟨Below.refl _ _, fun _ _ _ _ e _ => e⟩
theorem Kt.trans {h : Nat} {u v w : World} (a : Kt h u v) (b : Kt h v w) : Kt h u w := ⟨a.be.trans b.be, fun k cs t f e ht => b.ok k cs t f (a.ok k cs t f e ht) ht⟩
theorem Kt.of_below {h : Nat} {u w : World} (g : Below u.heap.size u w) (hb : h ≤ u.heap.size) : Kt h u w := ⟨g.mono hb, fun k _ _ _ e _ => (g.block k (lt_of_heap e)).trans e⟩
theorem Kt.gr {h r : Nat} {u w : World} (g : Gr r u w) (hr : h ≤ r) (hu : h ≤ u.heap.size) {cs : Array Value} {t : TypeId} {f : Nat × Nat} (hb : u.heap[r]? = some (.cells cs t f)) (h5 : t ≠ 5) (h9 : t ≠ 9) : Kt h u w := ⟨g.below hr hu, fun k cs' t' f' e ht => g.keep e (by
  rintro rfl
  rw [hb] at e
  simp at e
  rcases ht with h | h
  · exact h5 (e.2.1.trans h)
  · exact h9 (e.2.1.trans h))⟩
theorem Lo.kt {W W' : World} {h b : Nat} (g : Lo W h b) (k : Kt h W W') : Lo W' h b := by
  rcases g with g | ⟨cs, t, f, g1, g2⟩
  · exact .inl g
  · exact .inr ⟨cs, t, f, k.ok b cs t f g1 g2, g2⟩
theorem Lo.cell {W W' : World} {h b i : Nat} (g : Lo W h b) (k : Kt h W W') : W'.cell? ⟨b, i, none⟩ = W.cell? ⟨b, i, none⟩ := by
  rcases g with g | ⟨cs, t, f, g1, g2⟩
  · exact World.cell?_of_block (k.be.block b g)
  · exact World.cell?_of_block ((k.ok b cs t f g1 g2).trans g1.symm)
/-- Bytes that a slice has. -/
def Dq (W : World) (h : Nat) (s : Sl) (l : List UInt8) : Prop := s.n = l.length ∧ s.n ≤ s.c ∧ s.c ≤ maxLen ∧ ∀ (k : Nat) (c : UInt8), l[k]? = some c → ∃ b off, s.a = some ⟨b, off, none⟩ ∧ b < W.heap.size ∧ Lo W h b ∧ W.cell? ⟨b, off + k, none⟩ = some (.int .u8 c.toNat)
/-- Texts that a slice has. -/
def Nq (W : World) (h : Nat) (s : Sl) (l : List (List UInt8)) : Prop := s.n = l.length ∧ s.n ≤ s.c ∧ s.c ≤ maxLen ∧ ∀ (k : Nat) (c : List UInt8), l[k]? = some c → ∃ b off, s.a = some ⟨b, off, none⟩ ∧ b < W.heap.size ∧ Lo W h b ∧ W.cell? ⟨b, off + k, none⟩ = some (S c)
theorem Dq.kt {W W' : World} {h : Nat} {s : Sl} {l : List UInt8} (q : Dq W h s l) (k : Kt h W W') : Dq W' h s l := ⟨q.1, q.2.1, q.2.2.1, fun j c hj => by
  obtain ⟨b, off, e1, e2, e3, e4⟩ := q.2.2.2 j c hj
  exact ⟨b, off, e1, Nat.lt_of_lt_of_le e2 k.be.size, e3.kt k, (e3.cell k).trans e4⟩⟩
theorem Nq.kt {W W' : World} {h : Nat} {s : Sl} {l : List (List UInt8)} (q : Nq W h s l) (k : Kt h W W') : Nq W' h s l := ⟨q.1, q.2.1, q.2.2.1, fun j c hj => by
  obtain ⟨b, off, e1, e2, e3, e4⟩ := q.2.2.2 j c hj
  exact ⟨b, off, e1, Nat.lt_of_lt_of_le e2 k.be.size, e3.kt k, (e3.cell k).trans e4⟩⟩
theorem Dq.nil (W : World) (h : Nat) : Dq W h sl0 [] := ⟨rfl, Nat.le_refl _, Nat.zero_le _, fun k c e => by simp at e⟩
theorem Nq.nil (W : World) (h : Nat) : Nq W h sl0 [] := ⟨rfl, Nat.le_refl _, Nat.zero_le _, fun k c e => by simp at e⟩
/-- As told of what came in: below a block's number. -/
theorem Dq.low {W : World} {h : Nat} {s : Sl} {l : List UInt8} (q : Dq W h s l) : Dq W W.heap.size s l := ⟨q.1, q.2.1, q.2.2.1, fun j c hj => by
  obtain ⟨b, off, e1, e2, -, e4⟩ := q.2.2.2 j c hj
  exact ⟨b, off, e1, e2, .inl e2, e4⟩⟩
theorem Nq.low {W : World} {h : Nat} {s : Sl} {l : List (List UInt8)} (q : Nq W h s l) : Nq W W.heap.size s l := ⟨q.1, q.2.1, q.2.2.1, fun j c hj => by
  obtain ⟨b, off, e1, e2, -, e4⟩ := q.2.2.2 j c hj
  exact ⟨b, off, e1, e2, .inl e2, e4⟩⟩
theorem Dq.mono {W : World} {h h' : Nat} {s : Sl} {l : List UInt8} (q : Dq W h s l) (g : h ≤ h') : Dq W h' s l := ⟨q.1, q.2.1, q.2.2.1, fun j c hj => by
  obtain ⟨b, off, e1, e2, e3, e4⟩ := q.2.2.2 j c hj
  exact ⟨b, off, e1, e2, e3.imp (fun h => by omega) id, e4⟩⟩
theorem Nq.mono {W : World} {h h' : Nat} {s : Sl} {l : List (List UInt8)} (q : Nq W h s l) (g : h ≤ h') : Nq W h' s l := ⟨q.1, q.2.1, q.2.2.1, fun j c hj => by
  obtain ⟨b, off, e1, e2, e3, e4⟩ := q.2.2.2 j c hj
  exact ⟨b, off, e1, e2, e3.imp (fun h => by omega) id, e4⟩⟩
theorem Dq.below {W W' : World} {h : Nat} {s : Sl} {l : List UInt8} (q : Dq W h s l) (g : Below W.heap.size W W') (hh : h ≤ W.heap.size) : Dq W' h s l := q.kt (.of_below g hh)
theorem Nq.below {W W' : World} {h : Nat} {s : Sl} {l : List (List UInt8)} (q : Nq W h s l) (g : Below W.heap.size W W') (hh : h ≤ W.heap.size) : Nq W' h s l := q.kt (.of_below g hh)
theorem Dq.by' {W : World} {h : Nat} {s : Sl} {l : List UInt8} (q : Dq W h s l) : By W W.heap.size s.a l := fun j c hj => by
  obtain ⟨b, off, e1, e2, -, e4⟩ := q.2.2.2 j c hj
  exact ⟨b, off, e1, e2, e4⟩
theorem Dq.of_by {W : World} {h : Nat} {a : Option Addr} {n c : Nat} {l : List UInt8} (hn : n = l.length) (h1 : n ≤ c) (h2 : c ≤ maxLen) (q : By W h a l) (hh : h ≤ W.heap.size) : Dq W h ⟨a, n, c⟩ l := ⟨hn, h1, h2, fun j x hj => by
  obtain ⟨b, off, e1, e2, e3⟩ := q j x hj
  exact ⟨b, off, e1, by omega, .inl e2, e3⟩⟩
/-- What an own row of bytes gives. -/
theorem Dq.of_bw {W : World} {B h : Nat} {v : Value} {l : List UInt8} (q : Bw W B v l) : ∃ s : Sl, v = s.v ∧ Dq W h s l := by
  obtain ⟨rfl, rfl⟩ | ⟨g, cap, cur, fz, rfl, h2, h3, h4, h5, h6, h7, h8⟩ := q
  · exact ⟨sl0, rfl, Dq.nil _ _⟩
  · refine ⟨⟨some ⟨g, 0, none⟩, l.length, cap⟩, rfl, rfl, h5, h6, fun k c hk => ⟨g, 0, rfl, lt_of_heap h3, .inr ⟨_, _, _, h3, .inl rfl⟩, ?_⟩⟩
    have hk1 := (List.getElem?_eq_some_iff.1 hk).1
    rw [cell_of h3, Nat.zero_add, ← bc_get hk, ← h8, List.getElem?_take_of_lt hk1]
    simp
def Og (W : World) (h : Nat) (x : Om) : Prop := Dq W h x.d x.o.c.data ∧ Dq W h x.rd x.o.r.data ∧ Nq W h x.rn x.o.r.names
def Eg (W : World) (h : Nat) (x : Em) : Prop := Dq W h x.d x.e.c.data ∧ Dq W h x.rd x.e.r.data ∧ Nq W h x.rn x.e.r.names
theorem Og.kt {W W' : World} {h : Nat} {x : Om} (q : Og W h x) (k : Kt h W W') : Og W' h x := ⟨q.1.kt k, q.2.1.kt k, q.2.2.kt k⟩
theorem Eg.kt {W W' : World} {h : Nat} {x : Em} (q : Eg W h x) (k : Kt h W W') : Eg W' h x := ⟨q.1.kt k, q.2.1.kt k, q.2.2.kt k⟩
theorem Og.low {W : World} {h : Nat} {x : Om} (q : Og W h x) : Og W W.heap.size x := ⟨q.1.low, q.2.1.low, q.2.2.low⟩
/-- A row of events that came in. -/
def Es (W : World) (B : Nat) (a : Option Addr) (es : List Em) : Prop := ∀ (k : Nat) (x : Em), es[k]? = some x → ∃ g off, a = some ⟨g, off, none⟩ ∧ g < B ∧ (∀ (j : Nat) (v : Value), x.cs[j]? = some v → W.cell? ⟨g, off + k * 22 + j, none⟩ = some v) ∧ Eg W B x
theorem Es.below {W W' : World} {B : Nat} {a : Option Addr} {es : List Em} (h : Es W B a es) (g : Below B W W') (hB : B = W.heap.size) : Es W' B a es := fun k x hk => by
  obtain ⟨b, off, h1, h2, h3, h4⟩ := h k x hk
  exact ⟨b, off, h1, h2, fun j v hj => (World.cell?_of_block (g.block b h2)).trans (h3 j v hj), h4.kt (.of_below (hB ▸ g) (Nat.le_of_eq hB))⟩
theorem Es.nil (W : World) (B : Nat) (a : Option Addr) : Es W B a [] := fun k p h => by simp at h
theorem Es.take {W : World} {B : Nat} {a : Option Addr} {es : List Em} (h : Es W B a es) (n : Nat) : Es W B a (es.take n) := fun k p hk => by
  rw [List.getElem?_take] at hk
  split at hk
  · exact h k p hk
  · cases hk
/-- A row of calls that lies below a block's number. -/
def Os (W : World) (B : Nat) (a : Option Addr) (xs : List Om) : Prop := ∀ (k : Nat) (x : Om), xs[k]? = some x → ∃ g off, a = some ⟨g, off, none⟩ ∧ g < B ∧ (∀ (j : Nat) (v : Value), x.cs[j]? = some v → W.cell? ⟨g, off + k * 23 + j, none⟩ = some v) ∧ Og W B x
theorem Os.nil (W : World) (B : Nat) (a : Option Addr) : Os W B a [] := fun k p h => by simp at h
theorem Os.below {W W' : World} {B : Nat} {a : Option Addr} {xs : List Om} (h : Os W B a xs) (g : Below B W W') (hB : B = W.heap.size) : Os W' B a xs := fun k x hk => by
  obtain ⟨b, off, h1, h2, h3, h4⟩ := h k x hk
  exact ⟨b, off, h1, h2, fun j v hj => (World.cell?_of_block (g.block b h2)).trans (h3 j v hj), h4.kt (.of_below (hB ▸ g) (Nat.le_of_eq hB))⟩
theorem Os.mono {W : World} {B B' : Nat} {a : Option Addr} {xs : List Om} (h : Os W B a xs) (g : B ≤ B') : Os W B' a xs := fun k x hk => by
  obtain ⟨b, off, h1, h2, h3, h4, h5, h6⟩ := h k x hk
  exact ⟨b, off, h1, Nat.lt_of_lt_of_le h2 g, h3, h4.mono g, h5.mono g, h6.mono g⟩
/-- .. and stays so. -/
theorem Os.on {W W' : World} {a : Option Addr} {xs : List Om} (h : Os W W.heap.size a xs) (g : Below W.heap.size W W') : Os W' W'.heap.size a xs := (h.below g rfl).mono g.size
theorem Es.on {W W' : World} {a : Option Addr} {es : List Em} (h : Es W W.heap.size a es) (g : Below W.heap.size W W') : Es W' W'.heap.size a es := fun k x hk => by
  obtain ⟨b, off, h1, h2, h3, h4, h5, h6⟩ := h.below g rfl k x hk
  exact ⟨b, off, h1, Nat.lt_of_lt_of_le h2 g.size, h3, h4.mono g.size, h5.mono g.size, h6.mono g.size⟩

def rowO (x : Om) : List Value := x.cs.toList
theorem rowO_len (x : Om) : (rowO x).length = 23 := rfl
theorem rows_len (xs : List Om) : (xs.flatMap rowO).length = xs.length * 23 := by
  induction xs with
  | nil => rfl
  | cons p ps ih => rw [List.flatMap_cons, List.length_append, rowO_len, ih, List.length_cons]; omega
theorem rows_get {xs : List Om} {k : Nat} {x : Om} (h : xs[k]? = some x) {j : Nat} {v : Value} (hj : x.cs[j]? = some v) : (xs.flatMap rowO)[k * 23 + j]? = some v := by
  induction xs generalizing k with
  | nil => simp at h
  | cons q ps ih =>
    have hj23 : j < 23 := by
      have := (Array.getElem?_eq_some_iff.1 hj).1
      simpa [Om.cs] using this
    rw [List.flatMap_cons]
    cases k with
    | zero =>
      simp at h
      subst h
      rw [List.getElem?_append_left (by rw [rowO_len]; omega), Nat.zero_mul, Nat.zero_add]
      simpa [rowO] using hj
    | succ k =>
      rw [List.getElem?_append_right (by rw [rowO_len]; omega), rowO_len, show (k + 1) * 23 + j - 23 = k * 23 + j by omega]
      exact ih (by simpa using h)
theorem rowO_one (x : Om) : ∀ u ∈ rowO x, u.oneCell' = true := by
  intro u hu
  simp only [rowO, List.mem_cons, List.not_mem_nil, or_false] at hu
  rcases hu with rfl | rfl | rfl | rfl | rfl | rfl | rfl | rfl | rfl | rfl | rfl | rfl | rfl | rfl | rfl | rfl | rfl | rfl | rfl | rfl | rfl | rfl | rfl <;> rfl
/-- A row of calls that Ops owns, from block h on. -/
def Ow (T : TypeId) (W : World) (h : Nat) (v : Value) (xs : List Om) : Prop := W.ownsRow h T 23 v xs.length (xs.flatMap rowO) ∧ ∀ x ∈ xs, Og W h x
theorem Ow.nil (T : TypeId) (W : World) (h : Nat) : Ow T W h (.slice none 0 0) [] := ⟨World.ownsRow_nil _ _ _ _, fun p h => by cases h⟩
theorem Ow.form {T : TypeId} {W : World} {h : Nat} {v : Value} {xs : List Om} (q : Ow T W h v xs) : ∃ a cap, v = .slice a xs.length cap ∧ Os W W.heap.size a xs ∧ xs.length ≤ cap ∧ cap ≤ maxLen := by
  obtain ⟨⟨-, ⟨rfl, h2⟩ | ⟨g, cap, cur, rfl, h2, h3, h4, h5, h6, h7⟩⟩, h8⟩ := q
  · obtain rfl := List.eq_nil_of_length_eq_zero h2
    exact ⟨none, 0, rfl, Os.nil _ _ _, Nat.le_refl _, by unfold maxLen; omega⟩
  · refine ⟨some ⟨g, 0, none⟩, cap, rfl, fun k p hk => ⟨g, 0, rfl, lt_of_heap h3, fun j v hj => ?_, (h8 p (List.mem_of_getElem? hk)).low⟩, h4, h5⟩
    have hg := rows_get hk hj
    rw [← h7] at hg
    have hlt := (List.getElem?_eq_some_iff.1 hg).1
    rw [List.getElem?_take_of_lt (by rw [List.length_take] at hlt; omega)] at hg
    rw [cell_of h3, Nat.zero_add]
    simpa using hg
/-- Whoever turns neither a row of calls nor what lies. -/
theorem Ow.keep {T : TypeId} {W W' : World} {h : Nat} {v : Value} {xs : List Om} (q : Ow T W h v xs) (k : Kt h W W') (hT : ∀ (b : Nat) (cs : Array Value), W.heap[b]? = some (.cells cs T) → v.ownBlock = some b → W'.heap[b]? = some (.cells cs T)) : Ow T W' h v xs := by
  obtain ⟨⟨h1, h2⟩, h3⟩ := q
  refine ⟨⟨h1, ?_⟩, fun p hp => (h3 p hp).kt k⟩
  obtain h2 | ⟨b, cap, cur, e1, e2, e3, e4⟩ := h2
  · exact .inl h2
  · exact .inr ⟨b, cap, cur, e1, e2, hT b _ e3 (by rw [e1]; rfl), e4⟩
theorem Ow.below {T : TypeId} {W W' : World} {h : Nat} {v : Value} {xs : List Om} (q : Ow T W h v xs) (g : Below W.heap.size W W') (hh : h ≤ W.heap.size) : Ow T W' h v xs := q.keep (.of_below g hh) fun b _ e _ => (g.block b (lt_of_heap e)).trans e
theorem Ow.own {T : TypeId} {W : World} {h : Nat} {v : Value} {xs : List Om} (q : Ow T W h v xs) {k : Nat} (e : v.ownBlock = some k) : h ≤ k ∧ k < W.heap.size ∧ ∃ cs, W.heap[k]? = some (.cells cs T) := by
  obtain ⟨⟨-, ⟨rfl, -⟩ | ⟨g, cap, cur, rfl, h2, h3, -⟩⟩, -⟩ := q
  · cases e
  · simp [Value.ownBlock] at e
    subst e
    exact ⟨h2, lt_of_heap h3, _, h3⟩
/-- One call behind the others: what append leaves. -/
theorem Ow.new {T ty : TypeId} (ht : Try.prog.underlying ty = some (.slice T)) (hT5 : T ≠ 5) (hT9 : T ≠ 9) {i : TypeInfo} {z : Value} (hi : Try.prog.info? T = some i) (hz0 : i.zero = some z) (hz1 : i.size = 23) (hz3 : z.cells.size = 23) {by_ : Nat} (hz2 : i.bytes = by_) (hby : by_ ≤ 1000)
    {W : World} {h : Nat} {v : Value} {xs : List Om} (q : Ow T W h v xs) (hb : h ≤ W.heap.size) (x : Om) (hx : Og W h x) (hl : xs.length ≤ 1000000000) :
    ∃ v' W', (Builtin.append_ #[ty, ty] ty #[v, .slice (some ⟨W.heap.size, 0, none⟩) 1 1]).run Try.prog (W.alloc (.cells x.cs T)) = .ok v' W' ∧ Ow T W' h v' (xs ++ [x]) ∧ Kt h W W' ∧ ∀ k, k < W.heap.size → v.ownBlock ≠ some k → W'.heap[k]? = W.heap[k]? := by
  have hB : Below W.heap.size W (W.alloc (.cells x.cs T)) := (Below.refl _ _).alloc (Nat.le_refl _) _
  have hs : (W.alloc (.cells x.cs T)).heap.size = W.heap.size + 1 := by simp
  have q1 := q.below hB hb
  have h63 : xs.length + 1 ≤ maxLen := by unfold maxLen; omega
  have hbig : (xs.length + 1) * by_ ≤ 140737488355328 := Nat.le_trans (Nat.mul_le_mul (show xs.length + 1 ≤ 1000000001 by omega) hby) (by decide)
  obtain ⟨v', W', r1, r2, r3, -, r5⟩ := run_append_own_at (P := Try.prog) (w := W.alloc (.cells x.cs T)) h ty ty T i z 23 by_ ht hi hz0 hz1 hz2 hz3 (by decide) v xs.length _ q1.1 ⟨W.heap.size, 0, none⟩ 1 1 (rowO x) (rowO_len x) (fun j u hj => by
    rw [addAt, cell_of (heap_alloc_new W _), Nat.zero_add]
    simpa [rowO] using hj) (rowO_one x) h63 hbig (by omega)
  have hK : Kt h (W.alloc (.cells x.cs T)) W' := by
    refine ⟨⟨r3.os, r3.tape, r3.output, r3.size, fun k hk => r3.block k (by omega) (fun e => ?_)⟩, fun k cs t f e ht => ?_⟩
    · have := (q1.own e.symm).1
      omega
    · refine (r3.block k (lt_of_heap e) fun e2 => ?_).trans e
      obtain ⟨-, -, cs2, e3⟩ := q1.own e2.symm
      rw [e3] at e
      simp at e
      rcases ht with h | h
      · exact hT5 (e.2.1.trans h)
      · exact hT9 (e.2.1.trans h)
  have hK2 : Kt h W W' := (Kt.of_below hB hb).trans hK
  refine ⟨v', W', r1, ⟨?_, fun p hp => ?_⟩, hK2, fun k hk hne => (r3.block k (by omega) (fun e => hne e.symm)).trans (hB.block k hk)⟩
  · rw [List.flatMap_append, List.length_append]
    simpa using r2
  · rcases List.mem_append.1 hp with hp | hp
    · exact (q.2 p hp).kt hK2
    · obtain rfl : p = x := by simpa using hp
      exact hx.kt hK2
end Go.Proofs.Ytlokihpegllddaa.Cl
