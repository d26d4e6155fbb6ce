/-
  What a list of keys without pins becomes by Use: the pure side of LruOrder and LruLen. Rows of strings that a law reads.
-/
import Derived.Test.YtjcjibjagjiedaaAny
namespace Go.Proofs.Ytjcjibjagjiedaa
open Go.RowKit

theorem has_cons (x k : ByteArray) (v : Int) (es : Ents) : has ((x, v) :: es) k = (decide (x = k) || has es k) := by simp [has]
theorem ix_cons (x k : ByteArray) (v : Int) (es : Ents) : ix ((x, v) :: es) k = if x = k then 0 else ix es k + 1 := by
  by_cases h : x = k <;> simp [ix, List.findIdx_cons, h]
theorem era_zero (p : ByteArray × Int) (es : Ents) : era (p :: es) 0 = es := by simp [era]
theorem era_succ (p : ByteArray × Int) (es : Ents) (i : Nat) : era (p :: es) (i + 1) = p :: era es i := by simp [era]
theorem dropM_cons (x k : ByteArray) (v : Int) (es : Ents) : dropM ((x, v) :: es) k = if x = k then es else (x, v) :: dropM es k := by
  unfold dropM
  rw [has_cons, ix_cons]
  by_cases h : x = k
  · simp [h, era_zero]
  · cases hh : has es k <;> simp [h, era_succ]
theorem pins_cons (x k : ByteArray) (v : Int) (es : Ents) : pins ((x, v) :: es) k = if x = k then v else pins es k := by
  unfold pins
  rw [ix_cons]
  by_cases h : x = k <;> simp [h]
theorem dropM_nil (k : ByteArray) : dropM [] k = [] := rfl
theorem pins_nil (k : ByteArray) : pins [] k = 0 := rfl

/-- Keys that nobody has pinned. -/
def zs (l : List ByteArray) : Ents := l.map fun k => (k, 0)
theorem zs_len (l : List ByteArray) : (zs l).length = l.length := by simp [zs]
/-- The keys but one. -/
def but (l : List ByteArray) (k : ByteArray) : List ByteArray := l.filter fun x => !decide (x = k)
theorem but_of_not {l : List ByteArray} {k : ByteArray} (h : k ∉ l) : but l k = l := by
  unfold but
  rw [List.filter_eq_self]
  intro x hx
  simp; rintro rfl; exact h hx
theorem dropM_zs {l : List ByteArray} (h : l.Nodup) (k : ByteArray) : dropM (zs l) k = zs (but l k) := by
  induction l with
  | nil => rfl
  | cons x l ih =>
    obtain ⟨h1, h2⟩ := List.nodup_cons.1 h
    simp only [zs, List.map_cons] at ih ⊢
    rw [dropM_cons]
    by_cases hx : x = k
    · subst hx
      have : but (x :: l) x = l := by
        unfold but; rw [List.filter_cons]; simp; rintro a ha rfl; exact h1 ha
      rw [if_pos rfl, this]
    · have : but (x :: l) k = x :: but l k := by unfold but; rw [List.filter_cons]; simp [hx]
      rw [if_neg hx, ih h2, this]; rfl
theorem pins_zs (l : List ByteArray) (k : ByteArray) : pins (zs l) k = 0 := by
  induction l with
  | nil => rfl
  | cons x l ih =>
    simp only [zs, List.map_cons] at ih ⊢
    rw [pins_cons, ih]; split <;> rfl
/-- The keys with one of them used last. -/
def nx (l : List ByteArray) (k : ByteArray) : List ByteArray := but l k ++ [k]
theorem but_nodup {l : List ByteArray} (h : l.Nodup) (k : ByteArray) : (but l k).Nodup := h.filter _
theorem not_mem_but (l : List ByteArray) (k : ByteArray) : k ∉ but l k := by simp [but]
theorem nx_nodup {l : List ByteArray} (h : l.Nodup) (k : ByteArray) : (nx l k).Nodup := by
  unfold nx
  rw [List.nodup_append]
  refine ⟨but_nodup h k, by simp, fun a ha b hb => ?_⟩
  simp at hb; subst hb
  rintro rfl
  exact not_mem_but _ _ ha
theorem but_len (l : List ByteArray) (k : ByteArray) : (but l k).length ≤ l.length := List.length_filter_le _ _
theorem nx_len (l : List ByteArray) (k : ByteArray) : (nx l k).length ≤ l.length + 1 := by have := but_len l k; simp [nx]; exact this
theorem endM_zs {l : List ByteArray} (h : l.Nodup) (k : ByteArray) : endM (zs l) k = zs (nx l k) := by
  unfold endM nx
  rw [dropM_zs h, pins_zs]; simp [zs]
theorem use_short {l : List ByteArray} (h : l.Nodup) (k : ByteArray) {n : Int} (hn : ((nx l k).length : Int) ≤ n) : useS n (zs l) k = (⟨#[]⟩, false, zs (nx l k)) := by
  unfold useS
  rw [endM_zs h, zs_len, if_pos hn]
theorem use_long {l : List ByteArray} (h : l.Nodup) (k : ByteArray) {n : Int} (h1 : 1 ≤ n) (hn : ¬ ((nx l k).length : Int) ≤ n) : ∃ y t, nx l k = y :: t ∧ useS n (zs l) k = (y, true, zs t) := by
  have hb : but l k ≠ [] := by
    intro e
    simp [nx, e] at hn
    omega
  obtain ⟨y, t, e⟩ := List.exists_cons_of_ne_nil hb
  have e2 : nx l k = y :: (t ++ [k]) := by simp [nx, e]
  have hy : y ≠ k := by
    rintro rfl
    exact not_mem_but l y (by rw [e]; simp)
  refine ⟨y, t ++ [k], e2, ?_⟩
  unfold useS
  rw [endM_zs h, zs_len, if_neg hn, e2]
  have hv : vic (zs (y :: (t ++ [k]))) k = some 0 := by
    simp [vic, zs, List.findIdx?_cons, hy]
  simp only [useV, hv]
  simp [zs, era]
theorem olds_zs {l : List ByteArray} {n : Int} (h : (l.length : Int) ≤ n) : olds (zs l) n = l := by
  unfold olds
  rw [List.take_of_length_le (by rw [zs_len]; omega)]
  unfold zs
  rw [List.map_map]
  exact List.map_id _

/-- A row of strings, in a block of strings. -/
def RowS (W : World) (a : Option Addr) (l : List ByteArray) : Prop := l = [] ∨ ∃ g off cur, a = some ⟨g, off, none⟩ ∧ W.heap[g]? = some (.cells cur 9 (0, 0)) ∧ ∀ (k : Nat) (s : ByteArray), l[k]? = some s → cur[off + k]? = some (.string s)
section
variable {W W' : World} {a : Option Addr} {l : List ByteArray}
theorem RowS.keep (h : RowS W a l) (hk : ∀ g off, a = some ⟨g, off, none⟩ → ∀ cur, W.heap[g]? = some (.cells cur 9 (0, 0)) → W'.heap[g]? = W.heap[g]?) : RowS W' a l := by
  rcases h with h | ⟨g, off, cur, h1, h2, h3⟩
  · exact .inl h
  · exact .inr ⟨g, off, cur, h1, (hk g off h1 cur h2).trans h2, h3⟩
theorem RowS.below (h : RowS W a l) (B : Below W.heap.size W W') : RowS W' a l := h.keep fun g _ _ _ h2 => B.block g (lt_of_heap h2)
theorem RowS.fr {w0 : World} {b : Nat} {mo : Int} {es : Ents} (h : RowS W a l) (T : Lt w0 W b mo es) (F : Fr w0.heap.size b W W') : RowS W' a l := h.keep fun g _ _ cur h2 => (F.blk g _ h2 (by rintro rfl; obtain ⟨_, _, q, _⟩ := T.ls.hb; rw [q] at h2; simp at h2) (by simp)).trans h2.symm
theorem RowS.rowO (h : RowS W a l) : RowO W a l := fun k s hk => by
  rcases h with rfl | ⟨g, off, cur, h1, h2, h3⟩
  · simp at hk
  · exact ⟨g, off, h1, lt_of_heap h2, by rw [cell_of h2]; exact h3 k s hk⟩
theorem RowS.of_own {base m cap n : Nat} (h : W.ownsRow base 9 1 (.slice a m cap) n (strs l)) : RowS W a l := by
  have hl := h.1
  simp at hl
  by_cases he : l = []
  · exact .inl he
  · have hne : n ≠ 0 := by rw [← hl]; simpa using he
    obtain ⟨g, cap', cur, e1, _, hg, _, _, _, hx⟩ := own_open h hne
    simp only [Value.slice.injEq] at e1
    refine .inr ⟨g, 0, cur, e1.1, hg, fun k s hk => ?_⟩
    have := hx k (.string s) (by simp [strs, hk])
    rw [cell_of hg] at this
    rw [Nat.zero_add]; exact this
theorem RowS.nil (W : World) (a : Option Addr) : RowS W a [] := .inl rfl
/-- The row without its first. -/
theorem RowS.tail {y : ByteArray} {t : List ByteArray} (h : RowS W a (y :: t)) : ∃ g off, a = some ⟨g, off, none⟩ ∧ (t ≠ [] → RowS W (some ⟨g, off + 1, none⟩) t) := by
  rcases h with h | ⟨g, off, cur, h1, h2, h3⟩
  · simp at h
  · refine ⟨g, off, h1, fun _ => .inr ⟨g, off + 1, cur, rfl, h2, fun k s hk => ?_⟩⟩
    have := h3 (k + 1) s (by simpa using hk)
    rw [show off + 1 + k = off + (k + 1) by omega]; exact this
end
end Go.Proofs.Ytjcjibjagjiedaa
