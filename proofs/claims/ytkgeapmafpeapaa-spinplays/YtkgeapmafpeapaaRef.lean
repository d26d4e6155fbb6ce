/-
  The contracts of the document's own memory (warrenref1) and of Same: what it answers is what cell's faces are asked for.
-/
import Derived.Test.YtkgeapmafpeapaaOps
namespace Go.Proofs.Ytkgeapmafpeapaa
open Go.RowKit

/-- The document's memory: its struct lies in block b, its words in block c. -/
structure RMem (W : World) (b c n : Nat) (ws : List Int) (st k a o v : Int) (d : Bool) : Prop where
  hb : W.heap[b]? = some (.cells #[.slice (some ⟨c, 0, none⟩) n n, .int .i64 st, .int .i64 k, .int .i64 a, .int .i64 o, .int .i64 v, .bool d] 59)
  hc : W.heap[c]? = some (.cells (ws.map (Value.int .i64)).toArray 2)
  ne : b ≠ c
  len : ws.length = n
  lo : 0 < n
  hi : n ≤ 64

theorem RMem.blt {W : World} {b c n : Nat} {ws : List Int} {st k a o v : Int} {d : Bool} (h : RMem W b c n ws st k a o v d) : b < W.heap.size := (Array.getElem?_eq_some_iff.1 h.hb).1
theorem RMem.clt {W : World} {b c n : Nat} {ws : List Int} {st k a o v : Int} {d : Bool} (h : RMem W b c n ws st k a o v d) : c < W.heap.size := (Array.getElem?_eq_some_iff.1 h.hc).1
theorem RMem.of {W W' : World} {b c n : Nat} {ws : List Int} {st k a o v : Int} {d : Bool} (h : RMem W b c n ws st k a o v d) (e1 : W'.heap[b]? = W.heap[b]?) (e2 : W'.heap[c]? = W.heap[c]?) : RMem W' b c n ws st k a o v d :=
  ⟨e1.trans h.hb, e2.trans h.hc, h.ne, h.len, h.lo, h.hi⟩
theorem RMem.below {W W' : World} {b c n : Nat} {ws : List Int} {st k a o v : Int} {d : Bool} (h : RMem W b c n ws st k a o v d) (g : Below W.heap.size W W') : RMem W' b c n ws st k a o v d :=
  h.of (g.block _ h.blt) (g.block _ h.clt)
theorem RMem.frm {W W' : World} {b c n b' c' : Nat} {ws : List Int} {st k a o v : Int} {d : Bool} (h : RMem W b c n ws st k a o v d) (g : Frm b' c' W W') (h1 : b ≠ b') (h2 : b ≠ c') (h3 : c ≠ b') (h4 : c ≠ c') : RMem W' b c n ws st k a o v d :=
  h.of (g.block _ h.blt h1 h2) (g.block _ h.clt h3 h4)
theorem RMem.cells {W : World} {b c n : Nat} {ws : List Int} {st k a o v : Int} {d : Bool} (h : RMem W b c n ws st k a o v d) :
    W.cell? ⟨b, 0, none⟩ = some (.slice (some ⟨c, 0, none⟩) n n) ∧ W.cell? ⟨b, 1, none⟩ = some (.int .i64 st) ∧ W.cell? ⟨b, 2, none⟩ = some (.int .i64 k) ∧ W.cell? ⟨b, 3, none⟩ = some (.int .i64 a) ∧
    W.cell? ⟨b, 4, none⟩ = some (.int .i64 o) ∧ W.cell? ⟨b, 5, none⟩ = some (.int .i64 v) ∧ W.cell? ⟨b, 6, none⟩ = some (.bool d) ∧ ∀ i, W.frozen? ⟨b, i, none⟩ = false := by
  refine ⟨?_, ?_, ?_, ?_, ?_, ?_, ?_, frozen_of h.hb⟩ <;> rw [cell_of h.hb] <;> rfl
theorem RMem.word {W : World} {b c n : Nat} {ws : List Int} {st k a o v : Int} {d : Bool} (h : RMem W b c n ws st k a o v d) (i : Nat) (hi : i < n) :
    W.cell? ⟨c, i, none⟩ = some (.int .i64 (ws.getD i 0)) ∧ W.frozen? ⟨c, i, none⟩ = false := by
  refine ⟨?_, frozen_of h.hc i⟩
  rw [cell_of h.hc]
  have : i < ws.length := by rw [h.len]; exact hi
  simp [this]
theorem RMem.last {W : World} {b c n : Nat} {ws : List Int} {st k a o v : Int} {d : Bool} (h : RMem W b c n ws st k a o v d) (k' a' o' v' : Int) (d' : Bool) :
    RMem (((((W.setCell ⟨b, 2, none⟩ (.int .i64 k')).setCell ⟨b, 3, none⟩ (.int .i64 a')).setCell ⟨b, 4, none⟩ (.int .i64 o')).setCell ⟨b, 5, none⟩ (.int .i64 v')).setCell ⟨b, 6, none⟩ (.bool d')) b c n ws st k' a' o' v' d' := by
  refine ⟨heap_set (heap_set (heap_set (heap_set (heap_set h.hb 2 _) 3 _) 4 _) 5 _) 6 _, ?_, h.ne, h.len, h.lo, h.hi⟩
  have e := Ne.symm h.ne
  rw [Below.heap_setCell _ _ _ _ e, Below.heap_setCell _ _ _ _ e, Below.heap_setCell _ _ _ _ e, Below.heap_setCell _ _ _ _ e, Below.heap_setCell _ _ _ _ e]
  exact h.hc
theorem RMem.put {W : World} {b c n : Nat} {ws : List Int} {st k a o v : Int} {d : Bool} (h : RMem W b c n ws st k a o v d) (i : Nat) (x : Int) :
    RMem (W.setCell ⟨c, i, none⟩ (.int .i64 x)) b c n (ws.set i x) st k a o v d := by
  refine ⟨(Below.heap_setCell _ _ _ _ h.ne).trans h.hb, ?_, h.ne, by rw [List.length_set]; exact h.len, h.lo, h.hi⟩
  rw [heap_set h.hc i _]
  simp [List.map_set]
theorem RMem.count {W : World} {b c n : Nat} {ws : List Int} {st k a o v : Int} {d : Bool} (h : RMem W b c n ws st k a o v d) (x : Int) :
    RMem (W.setCell ⟨b, 1, none⟩ (.int .i64 x)) b c n ws x k a o v d := by
  refine ⟨heap_set h.hb 1 _, (Below.heap_setCell _ _ _ _ (Ne.symm h.ne)).trans h.hc, h.ne, h.len, h.lo, h.hi⟩

theorem Frm.last5 {b c : Nat} {u w : World} (h : Frm b c u w) (x2 x3 x4 x5 x6 : Value) :
    Frm b c u (((((w.setCell ⟨b, 2, none⟩ x2).setCell ⟨b, 3, none⟩ x3).setCell ⟨b, 4, none⟩ x4).setCell ⟨b, 5, none⟩ x5).setCell ⟨b, 6, none⟩ x6) :=
  ((((h.set (.inl rfl) _).set (.inl rfl) _).set (.inl rfl) _).set (.inl rfl) _).set (.inl rfl) _

set_option maxHeartbeats 400000 in
theorem rnew_yes (n : Nat) (h1 : 1 ≤ n) (h2 : n ≤ 64) (w : World) :
    Calls Try.prog 16 #[.int .i64 (n : Int)] w fun e w' => e = .returned (.pointer (some ⟨w.heap.size + 1, 0, none⟩)) ∧
      RMem w' (w.heap.size + 1) w.heap.size n (List.replicate n 0) 0 0 0 0 0 false ∧ Below w.heap.size w w' := by
  have hmk := fun w => run_make_row' (P := Try.prog) 55 2 (.int .i64 0) 8 Try.underlying55 info2 rfl .i64 .i64 n (by omega) (by omega) w
  go_enter Try.func16, Try.ntmps16
  go_wp2
  go_ret
  refine ⟨rfl, ⟨?_, ?_, by omega, by simp, by omega, h2⟩, ((Below.refl _ _).alloc (Nat.le_refl _) _).alloc (by simp) _⟩
  · exact putAll _ _ (by simp)
  · rw [Below.heap_alloc _ _ _ (by simp), ← made_zero]
    exact putAll _ _ rfl

set_option maxHeartbeats 400000 in
theorem do_no1 (b : Nat) (k a old new : Int) (w : World) (ha : a < 0) :
    Calls Try.prog 37 #[.pointer (some ⟨b, 0, none⟩), .int .i64 k, .int .i64 a, .int .i64 old, .int .i64 new] w fun e w' => e = .returned (.tuple #[.int .i64 0, .bool false, .int .i64 1]) ∧ w' = w := by
  go_enter Try.func37, Try.ntmps37
  go_wp2
  go_ret3
  exact ⟨rfl, rfl⟩
set_option maxHeartbeats 400000 in
theorem do_no2 (b c n : Nat) (k a old new : Int) (w : World) (hm : w.cell? ⟨b, 0, none⟩ = some (.slice (some ⟨c, 0, none⟩) n n)) (h0 : 0 ≤ a) (ha : (n : Int) ≤ a) :
    Calls Try.prog 37 #[.pointer (some ⟨b, 0, none⟩), .int .i64 k, .int .i64 a, .int .i64 old, .int .i64 new] w fun e w' => e = .returned (.tuple #[.int .i64 0, .bool false, .int .i64 1]) ∧ w' = w := by
  go_enter Try.func37, Try.ntmps37
  go_wp2
  go_ret3
  exact ⟨rfl, rfl⟩
theorem do_no (b c n : Nat) (k a old new : Int) (w : World) (hm : w.cell? ⟨b, 0, none⟩ = some (.slice (some ⟨c, 0, none⟩) n n)) (ha : a < 0 ∨ (n : Int) ≤ a) :
    Calls Try.prog 37 #[.pointer (some ⟨b, 0, none⟩), .int .i64 k, .int .i64 a, .int .i64 old, .int .i64 new] w fun e w' => e = .returned (.tuple #[.int .i64 0, .bool false, .int .i64 1]) ∧ w' = w := by
  by_cases h : a < 0
  · exact do_no1 b k a old new w h
  · exact do_no2 b c n k a old new w hm (by omega) (by omega)

set_option maxHeartbeats 1000000 in
theorem do1 (b c n a : Nat) (ws : List Int) (st k0 a0 o0 v0 : Int) (d0 : Bool) (old new : Int) (w : World) (hM : RMem w b c n ws st k0 a0 o0 v0 d0) (ha : a < n) (s0 : 0 ≤ st) (s1 : st ≤ 1000000) :
    Calls Try.prog 37 #[.pointer (some ⟨b, 0, none⟩), .int .i64 1, .int .i64 (a : Int), .int .i64 old, .int .i64 new] w fun e w' => e = .returned (.tuple #[.int .i64 (ws.getD a 0), .bool true, .int .i64 0]) ∧
      RMem w' b c n ws (st + 1) 1 a (ws.getD a 0) (ws.getD a 0) true ∧ Frm b c w w' := by
  have i0 : (0 : Int) ≤ (a : Int) := Int.natCast_nonneg _
  have i1 : (a : Int) < (n : Int) := by omega
  obtain ⟨h0, h1, h2, h3, h4, h5, h6, hf⟩ := hM.cells
  obtain ⟨hw, hwf⟩ := hM.word a ha
  have n1 := hM.ne
  have n2 := Ne.symm n1
  generalize ws.getD a 0 = held at *
  go_enter Try.func37, Try.ntmps37
  go_wp2
  go_ret3
  exact ⟨rfl, (hM.count _).last _ _ _ _ _, ((Frm.refl b c w).set (p := ⟨b, 1, none⟩) (.inl rfl) _).last5 _ _ _ _ _⟩

set_option maxHeartbeats 1000000 in
theorem do2 (b c n a : Nat) (ws : List Int) (st k0 a0 o0 v0 : Int) (d0 : Bool) (old new : Int) (w : World) (hM : RMem w b c n ws st k0 a0 o0 v0 d0) (ha : a < n) (s0 : 0 ≤ st) (s1 : st ≤ 1000000) :
    Calls Try.prog 37 #[.pointer (some ⟨b, 0, none⟩), .int .i64 2, .int .i64 (a : Int), .int .i64 old, .int .i64 new] w fun e w' => e = .returned (.tuple #[.int .i64 (ws.getD a 0), .bool true, .int .i64 0]) ∧
      RMem w' b c n (ws.set a new) (st + 1) 2 a (ws.getD a 0) new true ∧ Frm b c w w' := by
  have i0 : (0 : Int) ≤ (a : Int) := Int.natCast_nonneg _
  have i1 : (a : Int) < (n : Int) := by omega
  obtain ⟨h0, h1, h2, h3, h4, h5, h6, hf⟩ := hM.cells
  obtain ⟨hw, hwf⟩ := hM.word a ha
  have n1 := hM.ne
  have n2 := Ne.symm n1
  generalize ws.getD a 0 = held at *
  go_enter Try.func37, Try.ntmps37
  go_wp2
  go_ret3
  exact ⟨rfl, ((hM.put a new).count _).last _ _ _ _ _, (((Frm.refl b c w).set (p := ⟨c, a, none⟩) (.inr rfl) _).set (p := ⟨b, 1, none⟩) (.inl rfl) _).last5 _ _ _ _ _⟩

set_option maxHeartbeats 1000000 in
theorem do3y (b c n a : Nat) (ws : List Int) (st k0 a0 o0 v0 : Int) (d0 : Bool) (old new : Int) (w : World) (hM : RMem w b c n ws st k0 a0 o0 v0 d0) (ha : a < n) (s0 : 0 ≤ st) (s1 : st ≤ 1000000) (he : (ws.getD a 0 == old) = true) :
    Calls Try.prog 37 #[.pointer (some ⟨b, 0, none⟩), .int .i64 3, .int .i64 (a : Int), .int .i64 old, .int .i64 new] w fun e w' => e = .returned (.tuple #[.int .i64 (ws.getD a 0), .bool true, .int .i64 0]) ∧
      RMem w' b c n (ws.set a new) (st + 1) 3 a (ws.getD a 0) new true ∧ Frm b c w w' := by
  have i0 : (0 : Int) ≤ (a : Int) := Int.natCast_nonneg _
  have i1 : (a : Int) < (n : Int) := by omega
  obtain ⟨h0, h1, h2, h3, h4, h5, h6, hf⟩ := hM.cells
  obtain ⟨hw, hwf⟩ := hM.word a ha
  have n1 := hM.ne
  have n2 := Ne.symm n1
  generalize ws.getD a 0 = held at *
  go_enter Try.func37, Try.ntmps37
  go_wp2
  go_ret3
  exact ⟨rfl, ((hM.put a new).count _).last _ _ _ _ _, (((Frm.refl b c w).set (p := ⟨c, a, none⟩) (.inr rfl) _).set (p := ⟨b, 1, none⟩) (.inl rfl) _).last5 _ _ _ _ _⟩

set_option maxHeartbeats 1000000 in
theorem do3n (b c n a : Nat) (ws : List Int) (st k0 a0 o0 v0 : Int) (d0 : Bool) (old new : Int) (w : World) (hM : RMem w b c n ws st k0 a0 o0 v0 d0) (ha : a < n) (s0 : 0 ≤ st) (s1 : st ≤ 1000000) (he : (ws.getD a 0 == old) = false) :
    Calls Try.prog 37 #[.pointer (some ⟨b, 0, none⟩), .int .i64 3, .int .i64 (a : Int), .int .i64 old, .int .i64 new] w fun e w' => e = .returned (.tuple #[.int .i64 (ws.getD a 0), .bool false, .int .i64 0]) ∧
      RMem w' b c n ws (st + 1) 3 a (ws.getD a 0) (ws.getD a 0) false ∧ Frm b c w w' := by
  have i0 : (0 : Int) ≤ (a : Int) := Int.natCast_nonneg _
  have i1 : (a : Int) < (n : Int) := by omega
  obtain ⟨h0, h1, h2, h3, h4, h5, h6, hf⟩ := hM.cells
  obtain ⟨hw, hwf⟩ := hM.word a ha
  have n1 := hM.ne
  have n2 := Ne.symm n1
  generalize ws.getD a 0 = held at *
  go_enter Try.func37, Try.ntmps37
  go_wp2
  go_ret3
  exact ⟨rfl, (hM.count _).last _ _ _ _ _, ((Frm.refl b c w).set (p := ⟨b, 1, none⟩) (.inl rfl) _).last5 _ _ _ _ _⟩

end Go.Proofs.Ytkgeapmafpeapaa
