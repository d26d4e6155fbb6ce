/-
  LruOrder: the pure side of its pins, and two rows that grow beside one another.
-/
import Derived.Test.YtjcjibjagjiedaaPure
import Derived.Test.YtjcjibjagjiedaaIn
namespace Go.Proofs.Ytjcjibjagjiedaa
open Go.RowKit

/-- The keys, of which those are pinned that the flags say, as far as i. -/
def pe (f : Nat → Bool) (i : Nat) (l : List ByteArray) : Ents := l.mapIdx fun j k => (k, if j < i ∧ f j = true then 1 else 0)
theorem pe_len (f : Nat → Bool) (i : Nat) (l : List ByteArray) : (pe f i l).length = l.length := by simp [pe]
theorem pe_at {f : Nat → Bool} {i j : Nat} {l : List ByteArray} {x : ByteArray} (h : l[j]? = some x) : (pe f i l)[j]? = some (x, if j < i ∧ f j = true then 1 else 0) := by
  simp [pe, h]
theorem pe_zero (f : Nat → Bool) (l : List ByteArray) : pe f 0 l = zs l := by
  apply List.ext_getElem?
  intro j
  simp [pe, zs]
theorem pe_keys (f : Nat → Bool) (i : Nat) (l : List ByteArray) : (pe f i l).map (·.1) = l := by
  apply List.ext_getElem?
  intro j
  cases h : l[j]? <;> simp [pe, h]
theorem pe_fit (f : Nat → Bool) (i : Nat) (l : List ByteArray) (h : l.length ≤ 1000) : Fit 1000 (pe f i l) := by
  refine ⟨by rw [pe_len]; exact h, fun p hp => ?_⟩
  obtain ⟨j, hj, rfl⟩ := List.mem_iff_getElem.1 hp
  simp only [pe, List.getElem_mapIdx]
  split <;> simp
theorem pe_ix {f : Nat → Bool} {i j : Nat} {l : List ByteArray} {x : ByteArray} (hn : l.Nodup) (h : l[j]? = some x) : has (pe f i l) x = true ∧ ix (pe f i l) x = j := by
  obtain ⟨hl, he⟩ := List.getElem?_eq_some_iff.1 h
  refine ix_at (pe_at h) fun p hp => ?_
  obtain ⟨q, hq, rfl⟩ := List.mem_take_iff_getElem.1 hp
  simp only [pe, List.getElem_mapIdx]
  intro e
  rw [← he] at e
  exact List.pairwise_iff_getElem.1 hn q j (by omega) hl (by omega) e
theorem pe_pin {f : Nat → Bool} {i : Nat} {l : List ByteArray} {x : ByteArray} (hn : l.Nodup) (h : l[i]? = some x) (hf : f i = true) : pinM (pe f i l) x = pe f (i + 1) l := by
  obtain ⟨h1, h2⟩ := pe_ix (f := f) (i := i) hn h
  have hp : pins (pe f i l) x = 0 := by simp [pins, h2, pe_at h]
  rw [pinM, h1, h2, hp]
  simp only [if_true]
  obtain ⟨hl, he⟩ := List.getElem?_eq_some_iff.1 h
  apply List.ext_getElem?
  intro j
  rw [List.getElem?_set]
  by_cases hj : i = j
  · subst hj
    rw [if_pos rfl, if_pos (by rw [pe_len]; exact hl), pe_at h]; simp [hf]
  · rw [if_neg hj]
    cases hx : l[j]? with
    | none => simp [pe, hx]
    | some y =>
      rw [pe_at hx, pe_at hx]
      have : (j < i ∧ f j = true) ↔ (j < i + 1 ∧ f j = true) := by constructor <;> rintro ⟨a, b⟩ <;> exact ⟨by omega, b⟩
      simp only [this]
theorem pe_not {f : Nat → Bool} {i : Nat} {l : List ByteArray} (hf : f i = false) : pe f (i + 1) l = pe f i l := by
  apply List.ext_getElem?
  intro j
  cases hx : l[j]? with
  | none => simp [pe, hx]
  | some y =>
    rw [pe_at hx, pe_at hx]
    have : (j < i + 1 ∧ f j = true) ↔ (j < i ∧ f j = true) := by
      constructor
      · rintro ⟨a, b⟩
        refine ⟨?_, b⟩
        rcases Nat.lt_or_ge j i with h | h
        · exact h
        · obtain rfl : j = i := by omega
          rw [hf] at b; simp at b
      · rintro ⟨a, b⟩; exact ⟨by omega, b⟩
    simp only [this]
/-- What has gone, and what stays, of the first i. -/
def gq (f : Nat → Bool) (n : Int) (l : List ByteArray) (i : Nat) : List ByteArray := (shr n ((pe f l.length l).take i)).1
def sq (f : Nat → Bool) (n : Int) (l : List ByteArray) (i : Nat) : List ByteArray := (shr n ((pe f l.length l).take i)).2.map (·.1)
theorem pe_full {f : Nat → Bool} {l : List ByteArray} {i : Nat} {x : ByteArray} (h : l[i]? = some x) : (pe f l.length l)[i]? = some (x, if f i = true then 1 else 0) := by
  have hl := (List.getElem?_eq_some_iff.1 h).1
  rw [pe_at h]; simp [hl]
theorem q_stay {f : Nat → Bool} {n : Int} {l : List ByteArray} {i : Nat} {x : ByteArray} (h : l[i]? = some x) (hc : f i = true ∨ n ≤ ((gq f n l i).length : Int)) : gq f n l (i + 1) = gq f n l i ∧ sq f n l (i + 1) = sq f n l i ++ [x] := by
  unfold gq sq at *
  rw [shr_succ (pe_full h), stepS, if_neg]
  · simp
  · rintro ⟨h1, h2⟩
    rcases hc with hc | hc
    · simp [hc] at h2
    · omega
theorem q_go {f : Nat → Bool} {n : Int} {l : List ByteArray} {i : Nat} {x : ByteArray} (h : l[i]? = some x) (hf : f i = false) (hc : ¬ n ≤ ((gq f n l i).length : Int)) : gq f n l (i + 1) = gq f n l i ++ [x] ∧ sq f n l (i + 1) = sq f n l i := by
  unfold gq sq at *
  rw [shr_succ (pe_full h), stepS, if_pos]
  · simp
  · exact ⟨by omega, by simp [hf]⟩
theorem q_len (f : Nat → Bool) (n : Int) (l : List ByteArray) (i : Nat) : (gq f n l i).length + (sq f n l i).length ≤ i := by
  have h := shr_len n ((pe f l.length l).take i)
  have h2 := List.length_take_le i (pe f l.length l)
  unfold gq sq
  simp only [List.length_map]; omega

theorem BoolsAt.fn {W : World} {pa : Option Addr} {len : Nat} (h : BoolsAt W pa len) : ∃ f : Nat → Bool, ∀ i, i < len → ∃ b off, pa = some ⟨b, off, none⟩ ∧ b < W.heap.size ∧ W.cell? ⟨b, off + i, none⟩ = some (.bool (f i)) := by
  have h2 : ∀ i, ∃ s : Bool, i < len → ∃ b off, pa = some ⟨b, off, none⟩ ∧ b < W.heap.size ∧ W.cell? ⟨b, off + i, none⟩ = some (.bool s) := fun i => by
    by_cases hi : i < len
    · obtain ⟨b, off, s, h1⟩ := h.2 i hi
      exact ⟨s, fun _ => ⟨b, off, h1⟩⟩
    · exact ⟨false, fun h => absurd h hi⟩
  exact ⟨fun i => Classical.choose (h2 i), fun i hi => Classical.choose_spec (h2 i) hi⟩

section
variable {w0 W W5 : World} {b : Nat} {mo : Int} {es : Ents} {base n : Nat} {v : Value} {xs : List Value} {o : Obj}
theorem Lt.grown (T : Lt w0 W b mo es) (own : W.ownsRow base 9 1 v n xs) (hb : w0.heap.size ≤ base) (hg : (W.alloc o).grownBy W5 v.ownBlock) : Lt w0 W5 b mo es := by
  have own2 : (W.alloc o).ownsRow w0.heap.size 9 1 v n xs := own_base (own_keep own fun k cur hc => Below.heap_alloc W _ _ (lt_of_heap hc)) hb
  have hle := T.le
  refine ⟨T.ls.keep fun k cur t hc ho => (grown_keep own hg hc ?_).trans hc.symm, below_grown (T.be.alloc hle _) own2 hg (by simp; omega)⟩
  intro c e
  simp at e
  obtain ⟨rfl, rfl⟩ := e
  rcases ho with rfl | ho
  · obtain ⟨_, _, q, _⟩ := T.ls.hb
    rw [q] at hc; simp at hc
  · simp at ho
theorem RowS.grown {a : Option Addr} {l : List ByteArray} (h : RowS W a l) (own : W.ownsRow base 9 1 v n xs) (hlt : l = [] ∨ ∃ g off, a = some ⟨g, off, none⟩ ∧ g < base) (hg : (W.alloc o).grownBy W5 v.ownBlock) : RowS W5 a l := by
  rcases hlt with rfl | ⟨g, off, rfl, hgb⟩
  · exact .inl rfl
  · refine h.keep fun g' off' e cur hc => ?_
    simp only [Option.some.injEq, Addr.mk.injEq, and_true] at e
    obtain ⟨rfl, rfl⟩ := e
    rw [hg.block g (by simp; exact Nat.lt_succ_of_lt (lt_of_heap hc)), Below.heap_alloc _ _ _ (lt_of_heap hc)]
    intro e
    obtain ⟨-, ⟨rfl, _⟩ | ⟨g', cap, cur, rfl, hb, _⟩⟩ := own
    · simp [Value.ownBlock] at e
    · simp [Value.ownBlock] at e; omega
theorem own_beside {v2 : Value} {n2 : Nat} {ys : List Value} (own2 : W.ownsRow base 9 1 v2 n2 ys) (hne : ∀ k, v.ownBlock = some k → v2.ownBlock ≠ some k) (hg : (W.alloc o).grownBy W5 v.ownBlock) : W5.ownsRow base 9 1 v2 n2 ys := by
  obtain ⟨h0, h1 | ⟨g, cap, cur, rfl, h2, h3, h4⟩⟩ := own2
  · exact ⟨h0, .inl h1⟩
  · refine ⟨h0, .inr ⟨g, cap, cur, rfl, h2, ?_, h4⟩⟩
    rw [hg.block g (by simp; exact Nat.lt_succ_of_lt (lt_of_heap h3)) (fun e => hne g e.symm rfl), Below.heap_alloc _ _ _ (lt_of_heap h3), h3]
theorem beside_ne {v2 v' : Value} {n2 : Nat} {ys : List Value} (own2 : W.ownsRow base 9 1 v2 n2 ys) (hne : ∀ k, v.ownBlock = some k → v2.ownBlock ≠ some k) (hat : v'.ownBlock = v.ownBlock ∨ v'.ownBlock = some (W.heap.size + 1)) : ∀ k, v'.ownBlock = some k → v2.ownBlock ≠ some k := by
  intro k hk
  rcases hat with e | e
  · rw [e] at hk; exact hne k hk
  · rw [e] at hk
    simp at hk
    obtain ⟨h0, ⟨rfl, _⟩ | ⟨g, cap, cur, rfl, h2, h3, h4⟩⟩ := own2
    · simp [Value.ownBlock]
    · simp [Value.ownBlock]
      have := lt_of_heap h3
      omega
end
end Go.Proofs.Ytjcjibjagjiedaa
