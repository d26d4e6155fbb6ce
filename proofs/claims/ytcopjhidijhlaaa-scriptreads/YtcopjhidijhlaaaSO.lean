/-
  What a walk is told of items that came in.
-/
import Derived.Test.YtcopjhidijhlaaaSG
import Derived.Test.YtcopjhidijhlaaaSIn
import Derived.Deep.Slices
import Derived.SliceStrings
namespace Go.Proofs.Ytcopjhidijhlaaa.Cl
open Go.ChangeShapes Go.WideShapes Go.ChangeAt Go.RowKit Go.Deep

theorem cellsI : Try.prog.cellsOf 29 = 12 := by kernel_rfl
theorem max_le' : maxLen ≤ 9223372036854775807 := by decide
theorem add_add (b : Addr) (i j : Nat) : (b.add i).add j = b.add (i + j) := by
  unfold Addr.add
  by_cases hi : i = 0
  · subst hi; simp
  · by_cases hj : j = 0
    · subst hj; simp [hi]
    · simp [hi, hj, Nat.add_assoc]
theorem list_of {α : Type} {P : Nat → α → Prop} (n : Nat) (h : ∀ i, i < n → ∃ p, P i p) : ∃ ps : List α, ps.length = n ∧ ∀ i p, ps[i]? = some p → P i p := by
  induction n with
  | zero => exact ⟨[], rfl, fun i p h => by simp at h⟩
  | succ n ih =>
    obtain ⟨ps, h1, h2⟩ := ih fun i hi => h i (by omega)
    obtain ⟨p, hp⟩ := h n (by omega)
    refine ⟨ps ++ [p], by simp [h1], fun i q hq => ?_⟩
    rcases Nat.lt_or_ge i ps.length with hi | hi
    · rw [List.getElem?_append_left hi] at hq
      exact h2 i q hq
    · rw [List.getElem?_append_right hi] at hq
      cases hk : i - ps.length with
      | zero =>
        rw [hk] at hq
        simp at hq
        subst hq
        obtain rfl : i = n := by omega
        exact hp
      | succ k => rw [hk] at hq; simp at hq
set_option maxRecDepth 100000 in
set_option maxHeartbeats 1000000 in
theorem items_of {H : Type} {enc : TypeId × Value → H} {w : World} {held : Bool} {fuel : Nat} {a : Option Addr} {len cap : Nat} {x : DataW H × List MemPlace}
    (h : DataW.trod enc Try.prog w 0 (fun _ => true) held fuel 30 [.slice a len cap] = some x) : ∃ ps : List Ip, len = ps.length ∧ Ips w w.heap.size a ps ∧ len ≤ cap ∧ cap ≤ maxLen := by
  rcases open_slice Try.underlying30 h with ⟨hcs, _⟩ | ⟨y, l, c, m, n, D, Pl, hcs, _, hl, hm, hmm, _, hx⟩
  · simp at hcs
    obtain ⟨rfl, rfl, rfl⟩ := hcs
    exact ⟨[], rfl, Ips.nil _ _ _, Nat.le_refl _, Nat.zero_le _⟩
  · simp at hcs
    obtain ⟨rfl, rfl, rfl⟩ := hcs
    have key : ∀ i, i < len → ∃ p : Ip, (∀ j v, (p.1.cs p.2)[j]? = some v → w.cell? (y.add (i * 12 + j)) = some v) ∧ Du w w.heap.size p := by
      intro i hi
      obtain ⟨cs', h1, h2⟩ := hx i (by simp at hmm; omega)
      rw [cellsI] at h1
      obtain ⟨_, hlen, hcell⟩ := World.cells?_some h1
      obtain ⟨xs, k, hk, hxy, _, hxl, hf⟩ := DataW.trod_struct Try.underlying29 h2
      match xs, hxl, cs', hlen with
      | [y0, y1, y2, y3], _, [v0, v1, v2, v3, v4, v5, v6, v7, v8, v9, v10, v11], _ =>
        have g0 := hf 0 _ rfl
        have g1 := hf 1 _ rfl
        have g2 := hf 2 _ rfl
        have g3 := hf 3 _ rfl
        simp [cells3, cellsC] at g0 g1 g2 g3
        obtain ⟨n0, e0, _, m0⟩ := DataW.trod_int Try.underlying3 g0
        obtain ⟨n1, e1, _, m1⟩ := DataW.trod_int Try.underlying3 g1
        obtain ⟨n2, e2, _, m2⟩ := DataW.trod_int Try.underlying3 g2
        simp at e0 e1 e2
        subst e0 e1 e2
        obtain ⟨xs6, k6, hk6, hxy6, _, hxl6, hf6⟩ := DataW.trod_struct Try.underlying27 g3
        match xs6, hxl6 with
        | [z0, z1, z2, z3, z4, z5, z6, z7, z8], _ =>
          have j0 := hf6 0 _ rfl
          have j1 := hf6 1 _ rfl
          have j2 := hf6 2 _ rfl
          have j3 := hf6 3 _ rfl
          have j4 := hf6 4 _ rfl
          have j5 := hf6 5 _ rfl
          have j6 := hf6 6 _ rfl
          have j7 := hf6 7 _ rfl
          have j8 := hf6 8 _ rfl
          simp [cells3, cellsS, cellsB] at j0 j1 j2 j3 j4 j5 j6 j7 j8
          obtain ⟨i0, d0, _, l0⟩ := DataW.trod_int Try.underlying3 j0
          obtain ⟨t1, d1, _, l1⟩ := DataW.trod_string Try.underlying9 j1
          obtain ⟨t2, d2, _, l2⟩ := DataW.trod_string Try.underlying9 j2
          obtain ⟨i3, d3, _, l3⟩ := DataW.trod_int Try.underlying3 j3
          obtain ⟨i4, d4, _, l4⟩ := DataW.trod_int Try.underlying3 j4
          obtain ⟨i5, d5, _, l5⟩ := DataW.trod_int Try.underlying3 j5
          obtain ⟨i6, d6, _, l6⟩ := DataW.trod_int Try.underlying3 j6
          obtain ⟨i7, d7, _, l7⟩ := DataW.trod_int Try.underlying3 j7
          obtain ⟨ba, bl, bcap, rfl, b1, b2, b3, -⟩ := bytes_of j8
          simp at d0 d1 d2 d3 d4 d5 d6 d7
          subst d0 d1 d2 d3 d4 d5 d6 d7
          refine ⟨(⟨n0, n1, n2, ⟨i0, t1.data.toList, t2.data.toList, i3, i4, i5, i6, i7, bl⟩⟩, .slice ba bl.length bcap), ?_, ⟨ba, bcap, rfl, b1, b2, b3⟩⟩
          intro j v hj
          have hj12 : j < 12 := by
            have := (Array.getElem?_eq_some_iff.1 hj).1
            simpa [It.cs] using this
          have hq := hcell j (by simpa using hj12)
          rw [add_add] at hq
          rw [hq, ← hj]
          match j, hj12 with
          | 0, _ => rfl
          | 1, _ => rfl
          | 2, _ => rfl
          | 3, _ => rfl
          | 4, _ => simp [It.cs]
          | 5, _ => simp [It.cs]
          | 6, _ => rfl
          | 7, _ => rfl
          | 8, _ => rfl
          | 9, _ => rfl
          | 10, _ => rfl
          | 11, _ => rfl
    obtain ⟨ps, h1, h2⟩ := list_of len key
    refine ⟨ps, h1.symm, fun k p hk => ?_, hl, hm⟩
    obtain ⟨g1, g2⟩ := h2 k p hk
    obtain ⟨b, off, sp⟩ := y
    obtain ⟨g3, -⟩ := h2 0 (ps[0]'(by have := (List.getElem?_eq_some_iff.1 hk).1; omega)) (List.getElem?_eq_getElem _)
    have c0 := g3 0 _ rfl
    have e : (⟨b, off, sp⟩ : Addr).add (0 * 12 + 0) = ⟨b, off, sp⟩ := rfl
    rw [e] at c0
    obtain rfl := spot_none' c0
    have c1 := g1 0 _ rfl
    rw [addAt] at c1
    exact ⟨b, off, rfl, lt_of_cell c1, fun j v hj => by
      have := g1 j v hj
      rw [addAt] at this
      rw [Nat.add_assoc]
      exact this, g2⟩
end Go.Proofs.Ytcopjhidijhlaaa.Cl
