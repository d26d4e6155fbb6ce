/-
  The document's table: a struct with one row of pairs; the contracts of New, find, Get, Len.
-/
import Derived.Test.YtbmcnfdciogmjaaTwo
namespace Go.Proofs.Ytbmcnfdciogmjaa
open Go.RowKit Go.Sort
attribute [local go_sem ↓] Go.wp_at_zero Go.wp_at_succ

def pairV (p : ByteArray × Int) : List Value := [.string p.1, .int .i64 p.2]
def pairsV (m : Pairs) : List Value := m.flatMap pairV
theorem pairsV_get (m : Pairs) (i : Nat) (k : ByteArray) (v : Int) (h : m[i]? = some (k, v)) : (pairsV m)[i * 2]? = some (.string k) ∧ (pairsV m)[i * 2 + 1]? = some (.int .i64 v) := by
  induction m generalizing i with
  | nil => simp at h
  | cons p m ih =>
    cases i with
    | zero => simp at h; subst h; simp [pairsV, pairV]
    | succ i =>
      have := ih i (by simpa using h)
      simp only [pairsV, List.flatMap_cons, pairV] at *
      rw [show (i + 1) * 2 = i * 2 + 2 by omega, show i * 2 + 2 + 1 = i * 2 + 1 + 2 by omega]
      simpa using this
theorem pairsV_len (m : Pairs) : (pairsV m).length = m.length * 2 := by
  induction m with
  | nil => rfl
  | cons p m ih => simp only [pairsV, List.flatMap_cons, pairV, List.length_append, List.length_cons, List.length_nil] at *; omega
/-- The document's table in block rb, its pairs in a row of its own from base on. -/
structure Rf (base : Nat) (W : World) (rb : Nat) (m : Pairs) : Prop where
  hb : ∃ a cap, W.heap[rb]? = some (.cells #[.slice a m.length cap] 70) ∧ W.ownsRow base 73 2 (.slice a m.length cap) m.length (pairsV m)
  kb : base ≤ rb
theorem Rf.keep {base : Nat} {W W' : World} {rb : Nat} {m : Pairs} (h : Rf base W rb m) (hk : ∀ (k : Nat) (cur : Array Value) (t : TypeId), W.heap[k]? = some (.cells cur t (0, 0)) → (t = 70 ∨ t = 73) → W'.heap[k]? = W.heap[k]?) : Rf base W' rb m := by
  obtain ⟨a, cap, h1, h2⟩ := h.hb
  exact ⟨⟨a, cap, (hk rb _ _ h1 (.inl rfl)).trans h1, own_keep h2 fun k cur hc => hk k cur 73 hc (.inr rfl)⟩, h.kb⟩
theorem Rf.below {base : Nat} {W W' : World} {rb : Nat} {m : Pairs} (h : Rf base W rb m) (g : Below W.heap.size W W') : Rf base W' rb m := h.keep fun k _ _ hk _ => g.block k (lt_of_heap hk)
theorem Rf.pfr {base : Nat} {W W' : World} {rb : Nat} {m : Pairs} (h : Rf base W rb m) (g : PFr W W') : Rf base W' rb m := h.keep fun k cur t hk ht => g.2 k cur t hk (by rcases ht with rfl | rfl <;> decide) (by rcases ht with rfl | rfl <;> decide)
theorem Rf.cell0 {base : Nat} {W : World} {rb : Nat} {m : Pairs} (h : Rf base W rb m) : ∃ a cap, W.cell? ⟨rb, 0, none⟩ = some (.slice a m.length cap) ∧ (∀ i, W.frozen? ⟨rb, i, none⟩ = false) ∧ ∀ (i : Nat) (k : ByteArray) (v : Int), m[i]? = some (k, v) → ∃ g, a = some ⟨g, 0, none⟩ ∧ W.cell? ⟨g, i * 2, none⟩ = some (.string k) ∧ W.cell? ⟨g, i * 2 + 1, none⟩ = some (.int .i64 v) := by
  obtain ⟨a, cap, h1, h2⟩ := h.hb
  refine ⟨a, cap, by rw [cell_of h1]; rfl, frozen_of h1, fun i k v hi => ?_⟩
  have hl := (List.getElem?_eq_some_iff.1 hi).1
  rcases h2.2 with ⟨_, hz⟩ | ⟨g, cap', cur, hv, hbase, hb, g1, g2, g3, g4⟩
  · omega
  · simp at hv
    obtain ⟨rfl, rfl⟩ := hv
    obtain ⟨p1, p2⟩ := pairsV_get m i k v hi
    refine ⟨g, rfl, ?_, ?_⟩
    · rw [cell_of hb, ← p1, ← g4, List.getElem?_take_of_lt (by omega)]; simp
    · rw [cell_of hb, ← p2, ← g4, List.getElem?_take_of_lt (by omega)]; simp

/-- Where a key lies in the list, or -1. -/
def pos (m : Pairs) (k : ByteArray) : Int := if has m k then ((m.findIdx (fun p => decide (p.1 = k)) : Nat) : Int) else -1
theorem pos_at {m : Pairs} {j : Nat} {k : ByteArray} {v : Int} (h : m[j]? = some (k, v)) (hN : ∀ p ∈ m.take j, p.1 ≠ k) : pos m k = (j : Int) := by
  have hh : has m k = true := has_iff.2 ⟨v, List.mem_of_getElem? h⟩
  have hl := (List.getElem?_eq_some_iff.1 h).1
  have he := (List.getElem?_eq_some_iff.1 h).2
  have : m.findIdx (fun p => decide (p.1 = k)) = j := by
    rw [List.findIdx_eq hl]
    refine ⟨by rw [he]; simp, fun i hi => ?_⟩
    rw [decide_eq_false_iff_not]
    exact hN _ (List.mem_take_iff_getElem.2 ⟨i, by omega, rfl⟩)
  simp [pos, hh, this]
theorem pos_none {m : Pairs} {k : ByteArray} (hN : ∀ p ∈ m, p.1 ≠ k) : pos m k = -1 := by
  have : has m k = false := has_false.2 fun v hv => hN _ hv rfl
  simp [pos, this]
set_option maxHeartbeats 1000000 in
theorem rfind_any (base rb : Nat) (m : Pairs) (key : ByteArray) (hm : m.length ≤ 64) (w : World) (h : Rf base w rb m) :
    Calls Try.prog 34 #[.pointer (some ⟨rb, 0, none⟩), .string key] w fun e w' => e = .returned (.int .i64 (pos m key)) ∧ w' = w := by
  obtain ⟨a, cap, h0, hf, hc⟩ := h.cell0
  have HC := hide hc
  clear h hf hc
  generalize hml : m.length = ml at *
  replace hml := hide hml
  go_enter Try.func34, Try.ntmps34
  go_wp2_with fail
  go_loopw [5] (fun i wr => ∃ j : Nat, j ≤ ml ∧ i = .int .i64 j ∧ Hid (∀ p ∈ m.take j, p.1 ≠ key) ∧ wr = w) (fun i _ => ml - (intOf i).toNat)
  case atStart => exact ⟨0, by omega, rfl, hide (by simp), rfl⟩
  case round =>
    obtain ⟨j, hj, rfl, hN, rfl⟩ := hrel
    by_cases hlt : j < ml
    · have j0 : (0 : Int) ≤ (j : Int) := by omega
      have j1 : (j : Int) < (ml : Int) := by omega
      obtain ⟨⟨k, v⟩, hk⟩ : ∃ p, m[j]? = some p := ⟨_, List.getElem?_eq_getElem (by rw [unhide hml]; exact hlt)⟩
      obtain ⟨g, rfl, c0, c1⟩ := unhide HC j k v hk
      replace hk := hide hk
      by_cases he : k = key
      · subst he
        go_wp2_with fail
        go_ret
        refine ⟨?_, rfl⟩
        rw [pos_at (unhide hk) (unhide hN)]
        rfl
      · have hz2 := str_ne he
        go_wp2_with fail
        refine ⟨⟨j + 1, by omega, rfl, hide ?_, trivial⟩, by simp [intOf]; omega⟩
        intro p hp
        rw [List.take_add_one, unhide hk] at hp
        rcases List.mem_append.1 hp with hp | hp
        · exact unhide hN p hp
        · simp at hp; subst hp; exact he
    · have j1 : ¬ (j : Int) < (ml : Int) := by omega
      go_wp2_with fail
      go_ret
      refine ⟨?_, rfl⟩
      rw [pos_none fun p hp => unhide hN p (by rw [List.take_of_length_le (by rw [unhide hml]; omega)]; exact hp)]
      rfl
end Go.Proofs.Ytbmcnfdciogmjaa
