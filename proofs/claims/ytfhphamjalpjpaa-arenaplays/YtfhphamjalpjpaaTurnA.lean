/-
  Helpers of the laws with slices of handles: Within; a slice of integers that came in; what an append to one owned row leaves of the rest; slots that are taken, freed and taken again.
-/
import Derived.Test.YtfhphamjalpjpaaKnown
import Derived.Maps.AppendAt
namespace Go.Proofs.Ytfhphamjalpjpaa
open Go.RowKit

set_option maxHeartbeats 400000 in
theorem within_any (v hi : Int) (w : World) (h0 : 0 ≤ hi) (h1 : hi ≤ 1000) :
    Calls Try.prog 25 #[.int .i64 v, .int .i64 0, .int .i64 hi] w fun e w' => (∃ r : Int, 0 ≤ r ∧ r ≤ hi ∧ e = .returned (.int .i64 r)) ∧ w' = w := by
  have t1 : v.tmod (hi + 1) < hi + 1 := Int.tmod_lt_of_pos v (by omega)
  have t2 : -(hi + 1) < v.tmod (hi + 1) := by
    have h := Int.tmod_lt_of_pos (-v) (show 0 < hi + 1 by omega)
    rw [Int.neg_tmod] at h
    omega
  have t3 : ¬ hi + 1 = 0 := by omega
  by_cases hn : v.tmod (hi + 1) < 0
  · go_enter Try.func25, Try.ntmps25
    go_wp2
    go_ret
    exact ⟨⟨_, by omega, by omega, rfl⟩, rfl⟩
  · go_enter Try.func25, Try.ntmps25
    go_wp2
    go_ret
    exact ⟨⟨_, by omega, by omega, rfl⟩, rfl⟩

theorem cell_lt {W : World} {p : Addr} {v : Value} (h : W.cell? p = some v) : p.block < W.heap.size := by
  unfold World.cell? at h
  cases e : W.heap[p.block]? with
  | none => rw [e] at h; cases h
  | some o => exact (Array.getElem?_eq_some_iff.1 e).1
/-- What a walk is told of a slice of integers that came in. -/
def Picks (w : World) (a : Option Addr) (len : Nat) : Prop :=
  len ≤ maxLen ∧ ∀ i, i < len → ∃ (b off : Nat) (x : Int), a = some ⟨b, off, none⟩ ∧ b < w.heap.size ∧ w.cell? ⟨b, off + i, none⟩ = some (.int .i64 x) ∧ -9223372036854775808 ≤ x ∧ x ≤ 9223372036854775807
theorem addr_add (b off i : Nat) : (⟨b, off, none⟩ : Addr).add i = ⟨b, off + i, none⟩ := by unfold Addr.add; split <;> simp_all
theorem spot_none {w : World} {b off : Nat} {sp : Option Nat} {v : Value} (h : w.cell? ⟨b, off, sp⟩ = some v) : sp = none := by
  unfold World.cell? at h
  cases sp with
  | none => rfl
  | some s => cases hq : w.heap[b]? with
    | none => simp [hq] at h
    | some o => cases o <;> simp [hq] at h
theorem wf_bounds {x : Int} (h : (Lit.int .i64 x).wf = true) : -9223372036854775808 ≤ x ∧ x ≤ 9223372036854775807 := by
  simp [Lit.wf] at h
  exact h

theorem infoH : (Try.prog.info? 29).map (fun i => (i.zero, i.size, i.bytes)) = some (some (.agg #[.int .i64 0, .int .i64 0]), 2, 16) := by kernel_rfl
/-- A row of handles that is ours. -/
abbrev Hs (base : Nat) (W : World) (v : Value) (xs : List Slot) : Prop := W.ownsRow base 29 2 v xs.length (rowsOf Slot.row xs)
theorem Hs.keep {base : Nat} {W W' : World} {v : Value} {xs : List Slot} (h : Hs base W v xs) (hb : ∀ (k : Nat) (cur : Array Value), v.ownBlock = some k → W.heap[k]? = some (Obj.cells cur 29 (0, 0)) → W'.heap[k]? = W.heap[k]?) : Hs base W' v xs := by
  obtain ⟨h0, h1⟩ := h
  refine ⟨h0, ?_⟩
  rcases h1 with h1 | ⟨g, cap, cur, rfl, h2, h3, h4⟩
  · exact .inl h1
  · exact .inr ⟨g, cap, cur, rfl, h2, (hb g cur rfl h3).trans h3, h4⟩
theorem Hs.below {base : Nat} {W W' : World} {v : Value} {xs : List Slot} (h : Hs base W v xs) (g : Below W.heap.size W W') : Hs base W' v xs := h.keep fun k _ _ hc => g.block k (lt_of_heap hc)
/-- The call of a method of the arena leaves the row. -/
theorem Hs.fr {base : Nat} {W W' : World} {v : Value} {xs : List Slot} {b c d n : Nat} {gs : List Slot} {q : List Nat} {st : Int} (h : Hs base W v xs) (hA : Ar W b c d n gs q st) (g : Fr b c d W W') : Hs base W' v xs := by
  obtain ⟨r, hr, hl⟩ := hA.hd
  refine h.keep fun k cur _ hc => g.block k (lt_of_heap hc) ?_ ?_ ?_
  · rintro rfl; rw [hA.hb] at hc; simp at hc
  · rintro rfl; rw [hA.hc] at hc; simp at hc
  · rintro rfl; rw [hr] at hc; simp at hc
theorem Hs.ne {base : Nat} {W : World} {v : Value} {xs : List Slot} {k : Nat} {o : Obj} (h : Hs base W v xs) (ho : W.heap[k]? = some o) (hne : ∀ cur, o ≠ .cells cur 29 (0, 0)) : some k ≠ v.ownBlock := by
  obtain ⟨-, ⟨rfl, hz⟩ | ⟨g, cap, cur, rfl, hgb, hgg, hcap, hcm, hcs, htk⟩⟩ := h
  · simp [Value.ownBlock]
  · simp only [Value.ownBlock, ne_eq, Option.some.injEq]
    rintro rfl
    rw [hgg] at ho
    exact hne cur (Option.some.inj ho).symm
theorem Hs.lt {base : Nat} {W : World} {v : Value} {xs : List Slot} {k : Nat} (h : Hs base W v xs) (hk : v.ownBlock = some k) : k < W.heap.size ∧ base ≤ k := by
  obtain ⟨-, ⟨rfl, hz⟩ | ⟨g, cap, cur, rfl, hgb, hgg, _⟩⟩ := h
  · simp [Value.ownBlock] at hk
  · simp only [Value.ownBlock, Option.some.injEq] at hk
    subst hk
    exact ⟨lt_of_heap hgg, hgb⟩
/-- Behind an append to an owned row: the arena, another row, all that lay. -/
theorem Ar.grown {base : Nat} {W W' : World} {v : Value} {xs : List Slot} {b c d n : Nat} {gs : List Slot} {q : List Nat} {st : Int} (hA : Ar W b c d n gs q st) (h : Hs base W v xs) (g : W.grownBy W' v.ownBlock) : Ar W' b c d n gs q st := by
  obtain ⟨r, hr, hl⟩ := hA.hd
  exact hA.of (g.block b hA.lt.1 (h.ne hA.hb (by simp))) (g.block c hA.lt.2.1 (h.ne hA.hc (by simp))) (g.block d hA.lt.2.2 (h.ne hr (by simp)))
theorem Hs.grown {base : Nat} {W W' : World} {v v2 : Value} {xs : List Slot} (h2 : Hs base W v2 xs) (g : W.grownBy W' v.ownBlock) (ne : ∀ k, v2.ownBlock = some k → v.ownBlock ≠ some k) : Hs base W' v2 xs :=
  h2.keep fun k _ hk hc => g.block k (lt_of_heap hc) (fun e => ne k hk e.symm)
theorem below_grown {base : Nat} {w W W' : World} {v : Value} {xs : List Slot} (hB : Below base w W) (h : Hs base W v xs) (g : W.grownBy W' v.ownBlock) (hb : base ≤ W.heap.size) : Below base w W' := by
  refine ⟨g.os.trans hB.os, g.tape.trans hB.tape, g.output.trans hB.output, ?_, ?_⟩
  · have := g.size; have := hB.size; omega
  · intro k hk
    have h1 : some k ≠ v.ownBlock := by
      intro e
      have := (h.lt e.symm).2
      omega
    rw [g.block k (by omega) h1]
    exact hB.block k hk
theorem Hs.open_ {base : Nat} {W : World} {v : Value} {xs : List Slot} (h : Hs base W v xs) (hn : xs ≠ []) :
    ∃ g cap cur, v = .slice (some ⟨g, 0, none⟩) xs.length cap ∧ base ≤ g ∧ W.heap[g]? = some (.cells cur 29) ∧ xs.length ≤ cap ∧ cap ≤ maxLen ∧ ∀ (j : Nat) (u : Value), (rowsOf Slot.row xs)[j]? = some u → W.cell? ⟨g, j, none⟩ = some u := by
  obtain ⟨hl, ⟨rfl, hz⟩ | ⟨g, cap, cur, rfl, hgb, hgg, hcap, hcm, hcs, htk⟩⟩ := h
  · exact absurd (List.length_eq_zero_iff.1 hz) hn
  · refine ⟨g, cap, cur, rfl, hgb, hgg, hcap, hcm, fun j u hj => ?_⟩
    have hj2 := (List.getElem?_eq_some_iff.1 hj).1
    rw [cell_of hgg, ← hj, ← htk, List.getElem?_take_of_lt (by omega)]
    simp
theorem Hs.at {xs : List Slot} {W : World} {g : Nat} (h : ∀ (j : Nat) (u : Value), (rowsOf Slot.row xs)[j]? = some u → W.cell? ⟨g, j, none⟩ = some u) {k : Nat} {s x : Int} (hk : xs[k]? = some (s, x)) :
    W.cell? ⟨g, k * 2, none⟩ = some (.int .i64 s) ∧ W.cell? ⟨g, k * 2 + 1, none⟩ = some (.int .i64 x) := by
  have e0 := rowsOf_get Slot.row 2 Slot.row_length xs k 0 (s, x) hk (by omega)
  have e1 := rowsOf_get Slot.row 2 Slot.row_length xs k 1 (s, x) hk (by omega)
  rw [Nat.mul_comm] at e0 e1
  exact ⟨h _ _ e0, h _ _ e1⟩
/-- A slice value is nil or leads to block's start. -/
theorem Hs.form {base : Nat} {W : World} {v : Value} {xs : List Slot} (h : Hs base W v xs) : ∃ (a : Option Addr) (cap : Nat), v = .slice a xs.length cap := by
  obtain ⟨hl, ⟨rfl, hz⟩ | ⟨g, cap, cur, rfl, hgb, hgg, hcap, hcm, hcs, htk⟩⟩ := h
  · exact ⟨none, 0, by rw [hz]⟩
  · exact ⟨_, _, rfl⟩
theorem rows_one (s x : Int) : rowsOf Slot.row [(s, x)] = [.int .i64 s, .int .i64 x] := rfl
theorem rows_app (xs ys : List Slot) : rowsOf Slot.row (xs ++ ys) = rowsOf Slot.row xs ++ rowsOf Slot.row ys := by simp [rowsOf]
theorem rows_oneCell (xs : List Slot) : ∀ u ∈ rowsOf Slot.row xs, u.oneCell' = true := by
  intro u hu
  simp only [rowsOf, List.mem_flatMap, Slot.row] at hu
  obtain ⟨a, _, ha⟩ := hu
  simp at ha
  rcases ha with rfl | rfl <;> rfl

/-! Slots taken, freed, taken again. -/
abbrev hof (l : List Nat) : List Slot := l.map (fun s : Nat => ((s : Int), (1 : Int)))
/-- i of n slots are taken. -/
def gsTaken (n i : Nat) : List Slot := (List.range i).map (fun j : Nat => ((1 : Int), (j : Int))) ++ List.replicate (n - i) (0, 0)
theorem gsTaken_zero (n : Nat) : gsTaken n 0 = List.replicate n (0, 0) := by simp [gsTaken]
theorem gsTaken_get (n i : Nat) (h : i < n) : (gsTaken n i)[i]? = some (0, 0) := by
  unfold gsTaken
  rw [List.getElem?_append_right (by simp)]
  simp only [List.length_map, List.length_range, Nat.sub_self]
  rw [List.getElem?_replicate, if_pos (by omega)]
theorem gsTaken_set (n i : Nat) (h : i < n) : (gsTaken n i).set i (0 + 1, (i : Int)) = gsTaken n (i + 1) := by
  unfold gsTaken
  have e : n - i = (n - (i + 1)) + 1 := by omega
  rw [List.set_append_right _ _ (by simp), e, List.replicate_succ]
  simp [List.range_succ]
theorem gsTaken_full {n s : Nat} (h : s < n) : (gsTaken n n)[s]? = some (1, (s : Int)) := by
  simp [gsTaken, List.getElem?_range h]
theorem drop_range (n i : Nat) (h : i < n) : (List.range n).drop i = i :: (List.range n).drop (i + 1) := by
  have hl : i < (List.range n).length := by simpa using h
  rw [List.drop_eq_getElem_cons hl]
  simp

/-- The slots that are live, those that were freed, in order. -/
structure Tn (n : Nat) (gs : List Slot) (lv fr : List Nat) : Prop where
  lvOk : ∀ s ∈ lv, ∃ v, gs[s]? = some (1, v)
  frOk : ∀ s ∈ fr, gs[s]? = some (2, 0)
  nd : (lv ++ fr).Nodup
  len : lv.length + fr.length = n
theorem Tn.start (n : Nat) : Tn n (gsTaken n n) (List.range n) [] :=
  ⟨fun s hs => ⟨_, gsTaken_full (by simpa using hs)⟩, by simp, by simpa using List.nodup_range, by simp⟩
theorem Tn.free {n : Nat} {gs : List Slot} {lv fr : List Nat} {k s : Nat} (h : Tn n gs lv fr) (hk : lv[k]? = some s) : Tn n (gs.set s (1 + 1, 0)) (lv.take k ++ lv.drop (k + 1)) (fr ++ [s]) := by
  obtain ⟨hl, he⟩ := List.getElem?_eq_some_iff.1 hk
  have e : lv = lv.take k ++ s :: lv.drop (k + 1) := by
    rw [← he, ← List.drop_eq_getElem_cons hl, List.take_append_drop]
  have nd := h.nd
  have hlen := h.len
  have hin : s ∈ lv := List.mem_of_getElem? hk
  obtain ⟨v, hv⟩ := h.lvOk s hin
  have hsl := (List.getElem?_eq_some_iff.1 hv).1
  generalize lv.take k = A at *
  generalize lv.drop (k + 1) = B at *
  subst e
  have hp : (A ++ B ++ (fr ++ [s])).Perm (A ++ s :: B ++ fr) := by
    have p1 : (A ++ s :: B ++ fr).Perm (s :: (A ++ B) ++ fr) := List.Perm.append_right _ List.perm_middle
    have p2 : (A ++ B ++ (fr ++ [s])).Perm (s :: (A ++ B ++ fr)) := by
      rw [← List.append_assoc]; exact List.perm_append_singleton _ _
    exact p2.trans p1.symm
  have nd2 := hp.nodup_iff.2 nd
  have hs : s ∉ A ++ B := by
    intro hs
    have := (List.nodup_append.1 nd2).2.2 s hs s (by simp)
    exact this rfl
  have hf : s ∉ fr := by
    intro hs
    have := (List.nodup_append.1 nd).2.2 s (by simp) s hs
    exact this rfl
  refine ⟨?_, ?_, nd2, ?_⟩
  · intro t ht
    have hts : s ≠ t := by rintro rfl; exact hs ht
    rw [List.getElem?_set_ne hts]
    exact h.lvOk t (by simp at ht ⊢; rcases ht with h | h <;> simp [h])
  · intro t ht
    rcases List.mem_append.1 ht with ht | ht
    · have hts : s ≠ t := by rintro rfl; exact hf ht
      rw [List.getElem?_set_ne hts]
      exact h.frOk t ht
    · simp at ht; subst ht
      rw [List.getElem?_set_self hsl]; rfl
  · simp at hlen ⊢; omega
theorem hof_erase (lv : List Nat) (k : Nat) : hof (lv.take k ++ lv.drop (k + 1)) = (hof lv).take k ++ (hof lv).drop (k + 1) := by simp [hof]
end Go.Proofs.Ytfhphamjalpjpaa
