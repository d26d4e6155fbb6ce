/-
  The contracts of Free, Get and Set: a handle that is refused turns nothing but Stale; of a live slot Free lets its generation grow, empties it and puts it behind the free ones, Get answers what it holds, Set lets it hold another number.
-/
import Derived.Test.YtfhphamjalpjpaaTake
namespace Go.Proofs.Ytfhphamjalpjpaa
open Go.RowKit
attribute [local go_sem ↓] Go.wp_at_zero Go.wp_at_succ

theorem Bad.ne {gs : List Slot} {s x e m : Int} (h : Bad gs s x e m) : e ≠ 0 := by
  rcases h with ⟨rfl, _⟩ | ⟨rfl, _⟩ <;> decide

set_option maxRecDepth 100000 in
set_option maxHeartbeats 1000000 in
theorem get_bad (b c d n : Nat) (gs : List Slot) (q : List Nat) (st s x er m : Int) (w : World) (h : Ar w b c d n gs q st) (hbad : Bad gs s x er m) (s0 : 0 ≤ st) (s1 : st ≤ 1000000) :
    Calls Try.prog 9 #[.pointer (some ⟨b, 0, none⟩), .agg #[.int .i64 s, .int .i64 x]] w fun e w' => e = .returned (.tuple #[.int .i64 0, .int .i64 er]) ∧ Ar w' b c d n gs q (st + m) ∧ Fr b c d w w' := by
  obtain ⟨V, hV, v0, v1, vf, hB, hz⟩ := boxed w s x 29
  have HN := hide (find_bad b c d n gs q st s x er m V (h.below hB) hbad s0 s1)
  have he := hbad.ne
  clear h hbad
  go_enter Try.func9, Try.ntmps9
  go_wp2_with fail
  refine (unhide HN).mono ?_
  rintro e w1 ⟨rfl, hA1, hF1⟩
  clear HN
  go_wp2_with fail
  go_ret2
  exact ⟨rfl, hA1, (Fr.of_below hB).trans hF1⟩

set_option maxRecDepth 100000 in
set_option maxHeartbeats 1000000 in
theorem set_bad (b c d n : Nat) (gs : List Slot) (q : List Nat) (st s x er m v : Int) (w : World) (h : Ar w b c d n gs q st) (hbad : Bad gs s x er m) (s0 : 0 ≤ st) (s1 : st ≤ 1000000) :
    Calls Try.prog 11 #[.pointer (some ⟨b, 0, none⟩), .agg #[.int .i64 s, .int .i64 x], .int .i64 v] w fun e w' => e = .returned (.int .i64 er) ∧ Ar w' b c d n gs q (st + m) ∧ Fr b c d w w' := by
  obtain ⟨V, hV, v0, v1, vf, hB, hz⟩ := boxed w s x 29
  have HN := hide (find_bad b c d n gs q st s x er m V (h.below hB) hbad s0 s1)
  have he := hbad.ne
  clear h hbad
  go_enter Try.func11, Try.ntmps11
  go_wp2_with fail
  refine (unhide HN).mono ?_
  rintro e w1 ⟨rfl, hA1, hF1⟩
  clear HN
  go_wp2_with fail
  go_ret
  exact ⟨rfl, hA1, (Fr.of_below hB).trans hF1⟩

set_option maxRecDepth 100000 in
set_option maxHeartbeats 1000000 in
theorem free_bad (b c d n : Nat) (gs : List Slot) (q : List Nat) (st s x er m : Int) (w : World) (h : Ar w b c d n gs q st) (hbad : Bad gs s x er m) (s0 : 0 ≤ st) (s1 : st ≤ 1000000) :
    Calls Try.prog 12 #[.pointer (some ⟨b, 0, none⟩), .agg #[.int .i64 s, .int .i64 x]] w fun e w' => e = .returned (.int .i64 er) ∧ Ar w' b c d n gs q (st + m) ∧ Fr b c d w w' := by
  obtain ⟨V, hV, v0, v1, vf, hB, hz⟩ := boxed w s x 29
  have HN := hide (find_bad b c d n gs q st s x er m V (h.below hB) hbad s0 s1)
  have he := hbad.ne
  clear h hbad
  go_enter Try.func12, Try.ntmps12
  go_wp2_with fail
  refine (unhide HN).mono ?_
  rintro e w1 ⟨rfl, hA1, hF1⟩
  clear HN
  go_wp2_with fail
  go_ret
  exact ⟨rfl, hA1, (Fr.of_below hB).trans hF1⟩

set_option maxRecDepth 100000 in
set_option maxHeartbeats 1000000 in
theorem get_ok (b c d n k : Nat) (gs : List Slot) (q : List Nat) (st g u : Int) (w : World) (h : Ar w b c d n gs q st) (hk : gs[k]? = some (g, u)) (g0 : 0 ≤ g) (g1 : g % 2 = 1) :
    Calls Try.prog 9 #[.pointer (some ⟨b, 0, none⟩), .agg #[.int .i64 (k : Int), .int .i64 g]] w fun e w' => e = .returned (.tuple #[.int .i64 u, .int .i64 0]) ∧ Below w.heap.size w w' := by
  obtain ⟨V, hV, v0, v1, vf, hB, hz⟩ := boxed w (k : Int) g 29
  have HN := hide (find_ok b c d n k gs q st g u V (h.below hB) hk g0 g1)
  have HA := hide (h.below hB)
  have HK := hide hk
  clear h hk g0 g1
  go_enter Try.func9, Try.ntmps9
  go_wp2_with fail
  refine (unhide HN).mono ?_
  rintro e w1 ⟨rfl, hB1⟩
  obtain ⟨t0, t1, tf⟩ := ((unhide HA).below hB1).slot (unhide HK)
  clear HN
  go_wp2_with fail
  go_ret2
  exact ⟨rfl, hB.trans (hB1.mono (by omega))⟩

set_option maxRecDepth 100000 in
set_option maxHeartbeats 1000000 in
theorem set_ok (b c d n k : Nat) (gs : List Slot) (q : List Nat) (st g u v : Int) (w : World) (h : Ar w b c d n gs q st) (hk : gs[k]? = some (g, u)) (g0 : 0 ≤ g) (g1 : g % 2 = 1) :
    Calls Try.prog 11 #[.pointer (some ⟨b, 0, none⟩), .agg #[.int .i64 (k : Int), .int .i64 g], .int .i64 v] w fun e w' => e = .returned (.int .i64 0) ∧ Ar w' b c d n (gs.set k (g, v)) q st ∧ Fr b c d w w' := by
  obtain ⟨V, hV, v0, v1, vf, hB, hz⟩ := boxed w (k : Int) g 29
  have HN := hide (find_ok b c d n k gs q st g u V (h.below hB) hk g0 g1)
  have HA := hide (h.below hB)
  have HK := hide hk
  clear h hk g0 g1
  go_enter Try.func11, Try.ntmps11
  go_wp2_with fail
  refine (unhide HN).mono ?_
  rintro e w1 ⟨rfl, hB1⟩
  have hA1 := (unhide HA).below hB1
  obtain ⟨t0, t1, tf⟩ := hA1.slot (unhide HK)
  have H1 := hide hA1
  clear HN hA1
  go_wp2_with fail
  go_ret
  exact ⟨rfl, (unhide H1).setVal (unhide HK) v, ((Fr.of_below (b := b) (c := c) (d := d) hB).trans (.of_below hB1)).set (p := ⟨c, k * 2 + 1, none⟩) (.inr (.inl rfl)) _⟩

theorem Ar.push {W : World} {b c d n : Nat} {gs : List Slot} {q : List Nat} {st : Int} (h : Ar W b c d n gs q st) (hl : q.length < n) (k : Nat) :
    Ar ((W.setCell ⟨d, q.length, none⟩ (.int .i64 (k : Int))).setCell ⟨b, 1, none⟩ (.slice (some ⟨d, 0, none⟩) (q.length + 1) n)) b c d n gs (q ++ [k]) st := by
  obtain ⟨r, hr, hlr⟩ := h.hd
  obtain ⟨n1, n2, n3⟩ := h.nb
  have hb1 := (Below.heap_setCell W ⟨d, q.length, none⟩ (.int .i64 (k : Int)) _ n2).trans h.hb
  cases r with
  | nil => simp at hlr; omega
  | cons y r =>
    refine ⟨?_, ?_, ⟨r, ?_, by simp at hlr ⊢; omega⟩, h.len, h.nb, h.lo, h.hi⟩
    · have := heap_set hb1 1 (.slice (some ⟨d, 0, none⟩) (q.length + 1) n)
      simpa using this
    · rw [Below.heap_setCell _ _ _ _ (Ne.symm n1), Below.heap_setCell _ _ _ _ n3]; exact h.hc
    · rw [Below.heap_setCell _ _ _ _ (Ne.symm n2), heap_set hr]
      simp [nums]

theorem info3 : (Try.prog.info? 3).map (fun i => (i.zero, i.size, i.bytes)) = some (some (.int .i64 0), 1, 8) := by kernel_rfl

set_option maxRecDepth 100000 in
set_option maxHeartbeats 1000000 in
theorem free_ok (b c d n k : Nat) (gs : List Slot) (q : List Nat) (st g u : Int) (w : World) (h : Ar w b c d n gs q st) (hk : gs[k]? = some (g, u)) (g0 : 0 ≤ g) (g1 : g % 2 = 1) (g2 : g ≤ 1000000) (hl : q.length < n) :
    Calls Try.prog 12 #[.pointer (some ⟨b, 0, none⟩), .agg #[.int .i64 (k : Int), .int .i64 g]] w fun e w' => e = .returned (.int .i64 0) ∧ Ar w' b c d n (gs.set k (g + 1, 0)) (q ++ [k]) st ∧ Fr b c d w w' := by
  obtain ⟨V, hV, v0, v1, vf, hB, hz⟩ := boxed w (k : Int) g 29
  have HN := hide (find_ok b c d n k gs q st g u V (h.below hB) hk g0 g1)
  have HA := hide (h.below hB)
  have HK := hide hk
  obtain ⟨i0, hi, hz0, hz1, hz2⟩ := info_parts info3
  have hbl := h.lt
  have n2 := h.nb.2.1
  have n3 := h.nb.2.2
  have n1 := h.nb.1
  clear h hk g1
  go_enter Try.func12, Try.ntmps12
  go_wp2_with fail
  refine (unhide HN).mono ?_
  rintro e w1 ⟨rfl, hB1⟩
  have hA1 := (unhide HA).below hB1
  obtain ⟨t0, t1, tf⟩ := hA1.slot (unhide HK)
  have hA2 := (hA1.setGen (unhide HK) (g + 1)).setVal (get_set (unhide HK) _) 0
  rw [List.set_set] at hA2
  have hF2 := ((Fr.of_below (b := b) (c := c) (d := d) hB).trans (.of_below hB1)).set (p := ⟨c, k * 2, none⟩) (.inr (.inl rfl)) (.int .i64 (g + 1)) |>.set (p := ⟨c, k * 2 + 1, none⟩) (.inr (.inl rfl)) (.int .i64 0)
  have x0 : w1.cell? ⟨w.heap.size, 0, none⟩ = some (.int .i64 (k : Int)) := (World.cell?_of_block (w := V) (a := ⟨w.heap.size, 0, none⟩) (hB1.block w.heap.size (by omega))).trans v0
  have x1 : (((w1.setCell ⟨c, k * 2, none⟩ (.int .i64 (g + 1))).setCell ⟨c, k * 2 + 1, none⟩ (.int .i64 0))).cell? ⟨w.heap.size, 0, none⟩ = some (.int .i64 (k : Int)) := by
    rw [World.cell?_setCell_other _ _ _ _ (by simp only [ne_eq, Addr.mk.injEq, not_and]; omega), World.cell?_setCell_other _ _ _ _ (by simp only [ne_eq, Addr.mk.injEq, not_and]; omega)]; exact x0
  have hs1 := hB1.size
  have hs2 : w1.heap.size ≤ ((w1.setCell ⟨c, k * 2, none⟩ (.int .i64 (g + 1))).setCell ⟨c, k * 2 + 1, none⟩ (.int .i64 0)).heap.size := by simp [World.setCell]
  have H1 := hide hA2
  have H2 := hide hF2
  have HX := hide x1
  have HS := hide hs2
  clear HN hA1 hA2 hF2 v0 v1 vf x0 x1 hs2
  go_wp2_with fail
  have hA2 := unhide H1
  have hF2 := unhide H2
  have x1 := unhide HX
  have hs2 := unhide HS
  clear H1 H2 HX HS t0 t1 tf
  generalize ((w1.setCell ⟨c, k * 2, none⟩ (.int .i64 (g + 1))).setCell ⟨c, k * 2 + 1, none⟩ (.int .i64 0)) = W2 at *
  obtain ⟨y0, y1, y2, yf⟩ := hA2.cells
  have hA3 := (hA2.alloc (.cells #[.int .i64 (k : Int)] 3)).push hl k
  have hF3 := ((hF2.alloc (.cells #[.int .i64 (k : Int)] 3)).set (p := ⟨d, q.length, none⟩) (.inr (.inr rfl)) (.int .i64 (k : Int))).set (p := ⟨b, 1, none⟩) (.inl rfl) (.slice (some ⟨d, 0, none⟩) (q.length + 1) n)
  obtain ⟨r, hr, hlr⟩ := (hA2.alloc (.cells #[.int .i64 (k : Int)] 3)).hd
  obtain ⟨y, hy⟩ : ∃ y, (W2.alloc (.cells #[.int .i64 (k : Int)] 3)).cell? ⟨d, q.length, none⟩ = some y := by
    refine ⟨r[0]'(by omega), ?_⟩
    rw [cell_of hr, List.getElem?_toArray, List.getElem?_append_right (by simp)]
    simp
  have hyf : (W2.alloc (.cells #[.int .i64 (k : Int)] 3)).frozen? ⟨d, q.length, none⟩ = false := frozen_of hr _
  have HA3 := hide hA3
  have HF3 := hide hF3
  have yf1 : (W2.alloc (.cells #[.int .i64 (k : Int)] 3)).frozen? ⟨b, 1, none⟩ = false := frozen_of ((hA2.alloc (.cells #[.int .i64 (k : Int)] 3)).hb) 1
  obtain ⟨z0, z1, z2, zf⟩ := (hA2.alloc (.cells #[.int .i64 (k : Int)] 3)).cells
  have z3 : (W2.alloc (.cells #[.int .i64 (k : Int)] 3)).cell? ⟨w.heap.size, 0, none⟩ = some (.int .i64 (k : Int)) := (World.cell?_alloc_past _ _ _ (by show w.heap.size < W2.heap.size; omega)).trans x1
  clear hA3 hF3 hr hlr hF2 hA2 zf z0 z2
  generalize hlq : q.length = l at *
  have j1 : l + 1 ≤ n := by omega
  have j0 : (l : Int) < (n : Int) := by omega
  have nbs : b ≠ W2.heap.size := by omega
  go_region
  all_goals go_wp2_with fail
  all_goals go_ret
  all_goals exact ⟨rfl, (unhide HA3).of rfl rfl rfl, (unhide HF3).drew⟩
end Go.Proofs.Ytfhphamjalpjpaa
