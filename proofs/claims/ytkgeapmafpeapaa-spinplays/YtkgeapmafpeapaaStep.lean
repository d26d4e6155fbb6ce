/-
  The contract of a memory's step: one access of a cell that is there turns that cell, the count and the last access, and nothing else that lay.
-/
import Derived.Test.YtkgeapmafpeapaaBase
namespace Go.Proofs.Ytkgeapmafpeapaa
open Go.RowKit
attribute [local go_sem ↓] Go.wp_at_zero Go.wp_at_succ

/-- An access that lies in a block of its own. -/
structure Box (W : World) (g : Nat) (k a o v : Int) (d : Bool) : Prop where
  hg : W.heap[g]? = some (.cells #[.int .i64 k, .int .i64 a, .int .i64 o, .int .i64 v, .bool d] 77)
theorem Box.lt {W : World} {g : Nat} {k a o v : Int} {d : Bool} (h : Box W g k a o v d) : g < W.heap.size := (Array.getElem?_eq_some_iff.1 h.hg).1
theorem Box.new (w : World) (k a o v : Int) (d : Bool) : Box (w.alloc (.cells #[.int .i64 k, .int .i64 a, .int .i64 o, .int .i64 v, .bool d] 77)) w.heap.size k a o v d :=
  ⟨by show (w.heap.push _)[w.heap.size]? = _; simp⟩
theorem Box.of {W W' : World} {g : Nat} {k a o v : Int} {d : Bool} (h : Box W g k a o v d) (e : W'.heap[g]? = W.heap[g]?) : Box W' g k a o v d := ⟨e.trans h.hg⟩
theorem Box.below {W W' : World} {g : Nat} {k a o v : Int} {d : Bool} (h : Box W g k a o v d) (e : Below W.heap.size W W') : Box W' g k a o v d := h.of (e.block _ h.lt)
theorem Box.cells {W : World} {g : Nat} {k a o v : Int} {d : Bool} (h : Box W g k a o v d) :
    W.cell? ⟨g, 0, none⟩ = some (.int .i64 k) ∧ W.cell? ⟨g, 1, none⟩ = some (.int .i64 a) ∧ W.cell? ⟨g, 2, none⟩ = some (.int .i64 o) ∧ W.cell? ⟨g, 3, none⟩ = some (.int .i64 v) ∧ W.cell? ⟨g, 4, none⟩ = some (.bool d) := by
  refine ⟨?_, ?_, ?_, ?_, ?_⟩ <;> rw [cell_of h.hg] <;> rfl

/-- A memory behind the store of its last access; of a word; of its count. -/
theorem Mem.last {W : World} {b c n : Nat} {ws : List Int} {st k a o v : Int} {d : Bool} (h : Mem W b c n ws st k a o v d) (k' a' o' v' : Int) (d' : Bool) :
    Mem (((((W.setCell ⟨b, 2, none⟩ (.int .i64 k')).setCell ⟨b, 3, none⟩ (.int .i64 a')).setCell ⟨b, 4, none⟩ (.int .i64 o')).setCell ⟨b, 5, none⟩ (.int .i64 v')).setCell ⟨b, 6, none⟩ (.bool d')) b c n ws st k' a' o' v' d' := by
  refine ⟨heap_set (heap_set (heap_set (heap_set (heap_set h.hb 2 _) 3 _) 4 _) 5 _) 6 _, ?_, h.ne, h.len, h.lo, h.hi⟩
  have e := Ne.symm h.ne
  rw [Below.heap_setCell _ _ _ _ e, Below.heap_setCell _ _ _ _ e, Below.heap_setCell _ _ _ _ e, Below.heap_setCell _ _ _ _ e, Below.heap_setCell _ _ _ _ e]
  exact h.hc
theorem Mem.put {W : World} {b c n : Nat} {ws : List Int} {st k a o v : Int} {d : Bool} (h : Mem W b c n ws st k a o v d) (i : Nat) (x : Int) :
    Mem (W.setCell ⟨c, i, none⟩ (.int .i64 x)) b c n (ws.set i x) st k a o v d := by
  refine ⟨(Below.heap_setCell _ _ _ _ h.ne).trans h.hb, ?_, h.ne, by rw [List.length_set]; exact h.len, h.lo, h.hi⟩
  rw [heap_set h.hc i _]
  simp [List.map_set]
theorem Mem.count {W : World} {b c n : Nat} {ws : List Int} {st k a o v : Int} {d : Bool} (h : Mem W b c n ws st k a o v d) (x : Int) :
    Mem (W.setCell ⟨b, 1, none⟩ (.int .i64 x)) b c n ws x k a o v d := by
  refine ⟨heap_set h.hb 1 _, (Below.heap_setCell _ _ _ _ (Ne.symm h.ne)).trans h.hc, h.ne, h.len, h.lo, h.hi⟩
theorem Box.set {W : World} {g : Nat} {k a o v : Int} {d : Bool} (h : Box W g k a o v d) {p : Addr} (hp : g ≠ p.block) (u : Value) : Box (W.setCell p u) g k a o v d :=
  h.of (Below.heap_setCell _ _ _ _ hp)

set_option maxRecDepth 100000 in
set_option maxHeartbeats 2000000 in
theorem step_any (b c n : Nat) (ws : List Int) (st k0 a0 o0 v0 : Int) (d0 : Bool) (k old new : Int) (d : Bool) (a : Nat) (w : World)
    (hk : k = 1 ∨ k = 2 ∨ k = 3) (hM : Mem w b c n ws st k0 a0 o0 v0 d0) (ha : a < n) (s0 : 0 ≤ st) (s1 : st ≤ 1000000) :
    Calls Try.prog 51 #[.pointer (some ⟨b, 0, none⟩), .agg #[.int .i64 k, .int .i64 (a : Int), .int .i64 old, .int .i64 new, .bool d]] w fun e w' =>
      e = .returned (.tuple #[]) ∧ Mem w' b c n (ws.set a (nwOf k old new (ws.getD a 0))) (st + 1) k a (ws.getD a 0) (nwOf k old new (ws.getD a 0)) (dnOf k old (ws.getD a 0)) ∧ Frm b c w w' := by
  have i0 : (0 : Int) ≤ (a : Int) := Int.natCast_nonneg _
  have i1 : (a : Int) < (n : Int) := by omega
  have HK : Hid (k = 1 ∨ k = 2 ∨ k = 3) := hk
  clear hk
  go_enter Try.func51, Try.ntmps51
  go_wp2
  have hX := Box.new w k a old new d
  have hM1 := hM.alloc (.cells #[.int .i64 k, .int .i64 (a : Int), .int .i64 old, .int .i64 new, .bool d] 77)
  have F1 : Frm b c w (w.alloc (.cells #[.int .i64 k, .int .i64 (a : Int), .int .i64 old, .int .i64 new, .bool d] 77)) := (Frm.refl b c w).alloc _
  have hbX := hM.blt
  have hcX := hM.clt
  generalize (w.alloc (.cells #[.int .i64 k, .int .i64 (a : Int), .int .i64 old, .int .i64 new, .bool d] 77)) = W at hX hM1 F1 ⊢
  generalize w.heap.size = g at hX hbX hcX ⊢
  have hne := hM1.ne
  have n1 : g ≠ b := by omega
  have n2 : g ≠ c := by omega
  have n3 : c ≠ b := Ne.symm hne
  obtain ⟨h0, h1, h2, h3, h4, h5, h6, hf⟩ := hM1.cells
  obtain ⟨hw, hwf⟩ := hM1.word a ha
  obtain ⟨x0, x1, x2, x3, x4⟩ := hX.cells
  generalize hheld : ws.getD a 0 = held at *
  have Hh : Hid (ws.getD a 0 = held) := hheld
  clear hheld
  go_region_held3 (fun w' => w'.cell? ⟨g, 0, none⟩ = some (.int .i64 k) ∧ w'.cell? ⟨g, 1, none⟩ = some (.int .i64 a) ∧ w'.cell? ⟨g, 2, none⟩ = some (.int .i64 old) ∧ w'.cell? ⟨g, 3, none⟩ = some (.int .i64 new) ∧ w'.cell? ⟨g, 4, none⟩ = some (.bool d) ∧
     w'.cell? ⟨b, 0, none⟩ = some (.slice (some ⟨c, 0, none⟩) n n) ∧ w'.cell? ⟨c, a, none⟩ = some (.int .i64 held)) (first | ((try dsimp only); refine ⟨?_, ?_, ?_, ?_, ?_, ?_, ?_⟩ <;> (simp [World.cell?_setCell_other, *]; done)) | fail)
    (first | (go_at_call 54; refine (settle_any k a old new held d _ HK.out).mono ?_; rintro e w2 ⟨rfl, hB⟩; have hM2 := Mem.below hM1.drew hB; have hX2 := Box.below (hX.of (W' := W.drew) rfl) hB; have F2 := F1.drew.trans (Frm.of_below hB); obtain ⟨y0, y1, y2, y3, y4, y5, y6, yf⟩ := hM2.cells; obtain ⟨yw, ywf⟩ := hM2.word a ha; rw [Hh.out] at yw; obtain ⟨z0, z1, z2, z3, z4⟩ := hX2.cells))
  have hM3 := hM2.last k a held (nwOf k old new held) (dnOf k old held)
  have hX3 : Box (((((w2.setCell ⟨b, 2, none⟩ (.int .i64 k)).setCell ⟨b, 3, none⟩ (.int .i64 a)).setCell ⟨b, 4, none⟩ (.int .i64 held)).setCell ⟨b, 5, none⟩ (.int .i64 (nwOf k old new held))).setCell ⟨b, 6, none⟩ (.bool (dnOf k old held))) g k a old new d := ((((hX2.set n1 _).set n1 _).set n1 _).set n1 _).set n1 _
  have F3 : Frm b c w (((((w2.setCell ⟨b, 2, none⟩ (.int .i64 k)).setCell ⟨b, 3, none⟩ (.int .i64 a)).setCell ⟨b, 4, none⟩ (.int .i64 held)).setCell ⟨b, 5, none⟩ (.int .i64 (nwOf k old new held))).setCell ⟨b, 6, none⟩ (.bool (dnOf k old held))) := ((((F2.set (.inl rfl) _).set (.inl rfl) _).set (.inl rfl) _).set (.inl rfl) _).set (.inl rfl) _
  rename_i hS
  clear hS h0 h1 h2 h3 h4 h5 h6 hf hw hwf x0 x1 x2 x3 x4 y0 y1 y2 y3 y4 y5 y6 yf yw ywf z0 z1 z2 z3 z4
  generalize (((((w2.setCell ⟨b, 2, none⟩ (.int .i64 k)).setCell ⟨b, 3, none⟩ (.int .i64 a)).setCell ⟨b, 4, none⟩ (.int .i64 held)).setCell ⟨b, 5, none⟩ (.int .i64 (nwOf k old new held))).setCell ⟨b, 6, none⟩ (.bool (dnOf k old held))) = W3 at hM3 hX3 F3 ⊢
  obtain ⟨h0, h1, h2, h3, h4, h5, h6, hf⟩ := hM3.cells
  obtain ⟨hw, hwf⟩ := hM3.word a ha
  obtain ⟨x0, x1, x2, x3, x4⟩ := hX3.cells
  generalize hnw : nwOf k old new held = nw at *
  generalize hdn : dnOf k old held = dn at *
  have Hnw : Hid (nwOf k old new held = nw) := hnw
  have Hdn : Hid (dnOf k old held = dn) := hdn
  clear hnw hdn
  go_wp2
  go_region_held3 (fun w' => w'.cell? ⟨g, 1, none⟩ = some (.int .i64 a) ∧ w'.cell? ⟨b, 0, none⟩ = some (.slice (some ⟨c, 0, none⟩) n n) ∧ w'.cell? ⟨b, 5, none⟩ = some (.int .i64 nw))
    (first | ((try dsimp only); refine ⟨?_, ?_, ?_⟩ <;> (simp [World.cell?_setCell_other, *]; done)) | fail) (fail)
  have hM4 := (hM3.put a nw).drew
  have F4 := (F3.set (p := ⟨c, a, none⟩) (.inr rfl) (.int .i64 nw)).drew
  rename_i hS
  clear hS h0 h1 h2 h3 h4 h5 h6 hf hw hwf x0 x1 x2 x3 x4
  generalize (W3.setCell ⟨c, a, none⟩ (.int .i64 nw)).drew = W4 at hM4 F4 ⊢
  obtain ⟨h0, h1, h2, h3, h4, h5, h6, hf⟩ := hM4.cells
  go_wp2
  go_end0
  rw [Hh.out, Hnw.out, Hdn.out]
  exact ⟨rfl, hM4.count _, F4.set (.inl rfl) _⟩

end Go.Proofs.Ytkgeapmafpeapaa
