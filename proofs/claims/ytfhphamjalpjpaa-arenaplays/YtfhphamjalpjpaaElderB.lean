/-
  An arena and three rows beside it (the live handles, the dead ones, what the live ones hold): what calls, appends and cuts leave of them.
-/
import Derived.Test.YtfhphamjalpjpaaElderA
namespace Go.Proofs.Ytfhphamjalpjpaa
open Go.RowKit

theorem Rw.fr {base : Nat} {W W' : World} {e : TypeId} {s m : Nat} {v : Value} {xs : List Value} {b c d n : Nat} {gs : List Slot} {q : List Nat} {st : Int} (h : Rw base W e s v m xs) (hA : Ar W b c d n gs q st) (g : Fr b c d W W') (h1 : e ≠ 65) (h2 : e ≠ 70) (h3 : e ≠ 3) : Rw base W' e s v m xs := by
  obtain ⟨r, hr, hl⟩ := hA.hd
  refine h.keep fun k cur _ hc => g.block k (lt_of_heap hc) ?_ ?_ ?_
  · rintro rfl; rw [hA.hb] at hc; simp at hc; exact h1 hc.2.symm
  · rintro rfl; rw [hA.hc] at hc; simp at hc; exact h2 hc.2.symm
  · rintro rfl; rw [hr] at hc; simp at hc; exact h3 hc.2.symm
theorem Ar.grownR {base : Nat} {W W' : World} {e : TypeId} {s m : Nat} {v : Value} {xs : List Value} {b c d n : Nat} {gs : List Slot} {q : List Nat} {st : Int} (hA : Ar W b c d n gs q st) (h : Rw base W e s v m xs) (g : W.grownBy W' v.ownBlock) (h1 : e ≠ 65) (h2 : e ≠ 70) (h3 : e ≠ 3) : Ar W' b c d n gs q st := by
  obtain ⟨r, hr, hl⟩ := hA.hd
  exact hA.of (g.block b hA.lt.1 (h.ne hA.hb (by intro cur e'; simp at e'; exact h1 e'.2.symm))) (g.block c hA.lt.2.1 (h.ne hA.hc (by intro cur e'; simp at e'; exact h2 e'.2.symm))) (g.block d hA.lt.2.2 (h.ne hr (by intro cur e'; simp at e'; exact h3 e'.2.symm)))
theorem Rw.grown {base : Nat} {W W' : World} {e : TypeId} {s m : Nat} {v v2 : Value} {xs : List Value} (h2 : Rw base W e s v2 m xs) (g : W.grownBy W' v.ownBlock) (ne : ∀ k, v2.ownBlock = some k → v.ownBlock ≠ some k) : Rw base W' e s v2 m xs :=
  h2.keep fun k _ hk hc => g.block k (lt_of_heap hc) (fun e => ne k hk e.symm)
theorem below_grownR {base : Nat} {w W W' : World} {e : TypeId} {s m : Nat} {v : Value} {xs : List Value} (hB : Below base w W) (h : Rw base W e s v m xs) (g : W.grownBy W' v.ownBlock) (hb : base ≤ W.heap.size) : Below base w W' := by
  refine ⟨g.os.trans hB.os, g.tape.trans hB.tape, g.output.trans hB.output, ?_, ?_⟩
  · have := g.size; have := hB.size; omega
  · intro k hk
    have h1 : some k ≠ v.ownBlock := by
      intro e
      have := (h.lt e.symm).2.1
      omega
    rw [g.block k (by omega) h1]
    exact hB.block k hk
/-- Rows of two types lie in two blocks. -/
theorem Rw.apart {base : Nat} {W : World} {e e' : TypeId} {s s' m m' : Nat} {v v' : Value} {xs xs' : List Value} (h : Rw base W e s v m xs) (h' : Rw base W e' s' v' m' xs') (ne : e ≠ e') : ∀ k, v'.ownBlock = some k → v.ownBlock ≠ some k := by
  intro k h1 h2
  obtain ⟨_, _, cur, c1⟩ := h.lt h2
  obtain ⟨_, _, cur', c2⟩ := h'.lt h1
  rw [c1] at c2
  simp at c2
  exact ne c2.2

abbrev intv (l : List Int) : List Value := l.map (Value.int .i64)
structure ES (h : Nat) (w1 W : World) (b c d n : Nat) (gs : List Slot) (q : List Nat) (st : Int) (v7 v8 v9 : Value) (l7 l8 : List Slot) (l9 : List Int) : Prop where
  ar : Ar W b c d n gs q st
  r7 : Rw h W 29 2 v7 l7.length (rowsOf Slot.row l7)
  r8 : Rw h W 29 2 v8 l8.length (rowsOf Slot.row l8)
  r9 : Rw h W 2 1 v9 l9.length (intv l9)
  ne : ∀ k, v8.ownBlock = some k → v7.ownBlock ≠ some k
  be : Below h w1 W
  sz : h ≤ W.heap.size
theorem ES.below {h : Nat} {w1 W W' : World} {b c d n : Nat} {gs : List Slot} {q : List Nat} {st : Int} {v7 v8 v9 : Value} {l7 l8 : List Slot} {l9 : List Int} (E : ES h w1 W b c d n gs q st v7 v8 v9 l7 l8 l9) (g : Below W.heap.size W W') : ES h w1 W' b c d n gs q st v7 v8 v9 l7 l8 l9 :=
  ⟨E.ar.below g, E.r7.below g, E.r8.below g, E.r9.below g, E.ne, E.be.trans (g.mono E.sz), Nat.le_trans E.sz g.size⟩
theorem ES.alloc {h : Nat} {w1 W : World} {b c d n : Nat} {gs : List Slot} {q : List Nat} {st : Int} {v7 v8 v9 : Value} {l7 l8 : List Slot} {l9 : List Int} (E : ES h w1 W b c d n gs q st v7 v8 v9 l7 l8 l9) (o : Obj) : ES h w1 (W.alloc o) b c d n gs q st v7 v8 v9 l7 l8 l9 := E.below ((Below.refl _ _).alloc (Nat.le_refl _) o)
theorem ES.fr {h : Nat} {w1 W W' : World} {b c d n : Nat} {gs gs' : List Slot} {q q' : List Nat} {st st' : Int} {v7 v8 v9 : Value} {l7 l8 : List Slot} {l9 : List Int} (E : ES h w1 W b c d n gs q st v7 v8 v9 l7 l8 l9) (hA : Ar W' b c d n gs' q' st') (g : Fr b c d W W') (hb : h ≤ b) (hc : h ≤ c) (hd : h ≤ d) : ES h w1 W' b c d n gs' q' st' v7 v8 v9 l7 l8 l9 :=
  ⟨hA, E.r7.fr E.ar g (by decide) (by decide) (by decide), E.r8.fr E.ar g (by decide) (by decide) (by decide), E.r9.fr E.ar g (by decide) (by decide) (by decide), E.ne, E.be.trans (g.below hb hc hd E.sz), Nat.le_trans E.sz g.size⟩

theorem cells_hObj {W : World} {a : Nat} {s g : Int} (h : W.heap[a]? = some (hObj s g)) : ∀ (j : Nat) (u : Value), [Value.int .i64 s, .int .i64 g][j]? = some u → W.cell? ((⟨a, 0, none⟩ : Addr).add j) = some u := by
  intro j u hj
  rw [addr_add, Nat.zero_add, cell_of h]
  simpa using hj
theorem ES.app7 {h : Nat} {w1 W : World} {b c d n : Nat} {gs : List Slot} {q : List Nat} {st : Int} {v7 v8 v9 : Value} {l7 l8 : List Slot} {l9 : List Int} (E : ES h w1 W b c d n gs q st v7 v8 v9 l7 l8 l9) {a : Nat} {s g : Int} (ha : W.heap[a]? = some (hObj s g)) (hl : l7.length ≤ 1000) :
    ∃ v' W', (Builtin.append_ #[36, 36] 36 #[v7, .slice (some ⟨a, 0, none⟩) 1 1]).run Try.prog W = .ok v' W' ∧ ES h w1 W' b c d n gs q st v' v8 v9 (l7 ++ [(s, g)]) l8 l9 := by
  obtain ⟨i0, hi, hz0, hz1, hz2⟩ := info_parts infoH
  obtain ⟨v', W', r, R, gr, at'⟩ := E.r7.append 36 i0 (.agg #[.int .i64 0, .int .i64 0]) 16 Try.underlying36 hi hz0 hz1 hz2 rfl (by decide) ⟨a, 0, none⟩ 1 1 [.int .i64 s, .int .i64 g] rfl (cells_hObj ha) (by intro u hu; simp at hu; rcases hu with rfl | rfl <;> rfl) (by unfold maxLen; omega) (by omega) E.sz
  have ne87 : ∀ k, v8.ownBlock = some k → v7.ownBlock ≠ some k := E.ne
  refine ⟨v', W', r, E.ar.grownR E.r7 gr (by decide) (by decide) (by decide), by rw [List.length_append, rows_app, rows_one]; exact R, E.r8.grown gr ne87, E.r9.grown gr (E.r7.apart E.r9 (by decide)), ?_, below_grownR E.be E.r7 gr E.sz, Nat.le_trans E.sz gr.size⟩
  intro k h1 h2
  rcases at' k h2 with e | e
  · exact E.ne k h1 e
  · have := (E.r8.lt h1).1; omega
theorem ES.app8 {h : Nat} {w1 W : World} {b c d n : Nat} {gs : List Slot} {q : List Nat} {st : Int} {v7 v8 v9 : Value} {l7 l8 : List Slot} {l9 : List Int} (E : ES h w1 W b c d n gs q st v7 v8 v9 l7 l8 l9) {a : Nat} {s g : Int} (ha : W.heap[a]? = some (hObj s g)) (hl : l8.length ≤ 1000) :
    ∃ v' W', (Builtin.append_ #[36, 36] 36 #[v8, .slice (some ⟨a, 0, none⟩) 1 1]).run Try.prog W = .ok v' W' ∧ ES h w1 W' b c d n gs q st v7 v' v9 l7 (l8 ++ [(s, g)]) l9 := by
  obtain ⟨i0, hi, hz0, hz1, hz2⟩ := info_parts infoH
  obtain ⟨v', W', r, R, gr, at'⟩ := E.r8.append 36 i0 (.agg #[.int .i64 0, .int .i64 0]) 16 Try.underlying36 hi hz0 hz1 hz2 rfl (by decide) ⟨a, 0, none⟩ 1 1 [.int .i64 s, .int .i64 g] rfl (cells_hObj ha) (by intro u hu; simp at hu; rcases hu with rfl | rfl <;> rfl) (by unfold maxLen; omega) (by omega) E.sz
  have ne78 : ∀ k, v7.ownBlock = some k → v8.ownBlock ≠ some k := fun k h1 h2 => E.ne k h2 h1
  refine ⟨v', W', r, E.ar.grownR E.r8 gr (by decide) (by decide) (by decide), E.r7.grown gr ne78, by rw [List.length_append, rows_app, rows_one]; exact R, E.r9.grown gr (E.r8.apart E.r9 (by decide)), ?_, below_grownR E.be E.r8 gr E.sz, Nat.le_trans E.sz gr.size⟩
  intro k h1 h2
  rcases at' k h1 with e | e
  · exact E.ne k e h2
  · have := (E.r7.lt h2).1; omega
theorem ES.app9 {h : Nat} {w1 W : World} {b c d n : Nat} {gs : List Slot} {q : List Nat} {st : Int} {v7 v8 v9 : Value} {l7 l8 : List Slot} {l9 : List Int} (E : ES h w1 W b c d n gs q st v7 v8 v9 l7 l8 l9) {a : Nat} {x : Int} (ha : W.heap[a]? = some (.cells #[.int .i64 x] 2)) (hl : l9.length ≤ 1000) :
    ∃ v' W', (Builtin.append_ #[52, 52] 52 #[v9, .slice (some ⟨a, 0, none⟩) 1 1]).run Try.prog W = .ok v' W' ∧ ES h w1 W' b c d n gs q st v7 v8 v' l7 l8 (l9 ++ [x]) := by
  obtain ⟨i0, hi, hz0, hz1, hz2⟩ := info_parts info2
  obtain ⟨v', W', r, R, gr, at'⟩ := E.r9.append 52 i0 (.int .i64 0) 8 Try.underlying52 hi hz0 hz1 hz2 rfl (by decide) ⟨a, 0, none⟩ 1 1 [.int .i64 x] rfl (by intro j u hj; rw [addr_add, Nat.zero_add, cell_of ha]; simpa using hj) (by intro u hu; simp at hu; subst hu; rfl) (by unfold maxLen; omega) (by omega) E.sz
  refine ⟨v', W', r, E.ar.grownR E.r9 gr (by decide) (by decide) (by decide), E.r7.grown gr (E.r9.apart E.r7 (by decide)), E.r8.grown gr (E.r9.apart E.r8 (by decide)), by simpa [intv] using R, E.ne, below_grownR E.be E.r9 gr E.sz, Nat.le_trans E.sz gr.size⟩
/-- The heads of the live ones and of what they hold are cut off. -/
theorem ES.cut {h : Nat} {w1 W : World} {b c d n : Nat} {gs : List Slot} {q : List Nat} {st : Int} {v8 : Value} {l7 l8 : List Slot} {l9 : List Int} {g7 o7 c7 g9 o9 c9 m : Nat} {x : Slot} {y : Int} (hl : l7.length = m) (hl9 : l9.length = m)
    (E : ES h w1 W b c d n gs q st (.slice (some ⟨g7, o7, none⟩) (m + 1) c7) v8 (.slice (some ⟨g9, o9, none⟩) (m + 1) c9) (x :: l7) l8 (y :: l9)) :
    ES h w1 W b c d n gs q st (.slice (if c7 = 1 then some ⟨g7, o7, none⟩ else some ⟨g7, o7 + 2, none⟩) m (c7 - 1)) v8 (.slice (if c9 = 1 then some ⟨g9, o9, none⟩ else some ⟨g9, o9 + 1, none⟩) m (c9 - 1)) l7 l8 l9 := by
  have r7 := E.r7
  have r9 := E.r9
  simp only [List.length_cons, hl, hl9] at r7 r9
  refine ⟨E.ar, ?_, E.r8, ?_, ?_, E.be, E.sz⟩
  · rw [hl]; exact Rw.tail (hd := [.int .i64 x.1, .int .i64 x.2]) r7 rfl
  · rw [hl9]; exact Rw.tail (hd := [.int .i64 y]) r9 rfl
  · intro k h1 h2
    refine E.ne k h1 ?_
    split at h2 <;> exact h2
end Go.Proofs.Ytfhphamjalpjpaa
