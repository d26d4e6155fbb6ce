/-
  What holds between two calls of a Grace and the books that are kept beside it: since when each reader is inside, when each id was deferred. No walk.
-/
import Derived.Test.YtkgcgfnleabkdaaAsks
namespace Go.Proofs.Ytkgcgfnleabkdaa

/-- The books: sections, since when, when; each that waits was deferred; whoever it waits for is inside; whoever it does not wait for is outside, or came in behind it. -/
structure Sv (B : Int) (ss sn wh : List Int) (ws : List Wt) : Prop where
  ls : ss.length = 4
  ln : sn.length = 4
  nn : ∀ (q : Nat) (s : Int), ss[q]? = some s → 0 ≤ s ∧ s ≤ B
  wb : ∀ (j : Nat) (t : Int), wh[j]? = some t → t < B
  hi : ∀ (q : Nat), 4 ≤ q → ∀ x ∈ ws, x.on q = false
  ex : ∀ x ∈ ws, ∃ (j : Nat) (t : Int), x.id = (j : Int) ∧ wh[j]? = some t ∧ ∀ (q : Nat) (s u : Int), ss[q]? = some s → sn[q]? = some u → (x.on q = true → 0 < s) ∧ (x.on q = false → 0 < s → t ≤ u)

theorem Sv.start : Sv 0 [0, 0, 0, 0] [0, 0, 0, 0] [] [] := by
  refine ⟨rfl, rfl, ?_, by simp, by simp, by simp⟩
  intro q s h
  match q, h with
  | 0, h => simp at h; omega
  | 1, h => simp at h; omega
  | 2, h => simp at h; omega
  | 3, h => simp at h; omega
  | k + 4, h => simp at h
variable {B B' : Int} {ss sn wh : List Int} {ws : List Wt}
theorem Sv.mono (h : Sv B ss sn wh ws) (hB : B ≤ B') : Sv B' ss sn wh ws :=
  ⟨h.ls, h.ln, fun q s hs => by have := h.nn q s hs; omega, fun j t ht => by have := h.wb j t ht; omega, h.hi, h.ex⟩
theorem get_set_eq {l : List Int} {k q : Nat} {v s : Int} (h : (l.set k v)[q]? = some s) : (q = k ∧ s = v) ∨ (q ≠ k ∧ l[q]? = some s) := by
  by_cases e : k = q
  · subst e
    rw [List.getElem?_set] at h
    simp at h
    exact .inl ⟨rfl, h.2.symm⟩
  · rw [List.getElem?_set_ne e] at h
    exact .inr ⟨fun e' => e e'.symm, h⟩
theorem Sv.enter0 (h : Sv B ss sn wh ws) {r : Nat} (hr : ss[r]? = some 0) (hB : 0 ≤ B) : Sv (B + 1) (ss.set r 1) (sn.set r B) wh ws := by
  refine ⟨by simp [h.ls], by simp [h.ln], fun q s hs => ?_, fun j t ht => by have := h.wb j t ht; omega, h.hi, fun x hx => ?_⟩
  · rcases get_set_eq hs with ⟨_, rfl⟩ | ⟨_, hs⟩
    · omega
    · have := h.nn q s hs; omega
  · obtain ⟨j, t, e, ht, hq⟩ := h.ex x hx
    refine ⟨j, t, e, ht, fun q s u hs hu => ?_⟩
    rcases get_set_eq hs with ⟨rfl, rfl⟩ | ⟨hne, hs⟩
    · rcases get_set_eq hu with ⟨_, rfl⟩ | ⟨hne, _⟩
      · have := h.wb j t ht
        exact ⟨fun _ => by omega, fun _ _ => by omega⟩
      · exact absurd rfl hne
    · rcases get_set_eq hu with ⟨e', _⟩ | ⟨_, hu⟩
      · exact absurd e' hne
      · exact hq q s u hs hu
theorem Sv.enter1 (h : Sv B ss sn wh ws) {r : Nat} {s0 : Int} (hr : ss[r]? = some s0) (h0 : 0 < s0) : Sv (B + 1) (ss.set r (s0 + 1)) sn wh ws := by
  refine ⟨by simp [h.ls], h.ln, fun q s hs => ?_, fun j t ht => by have := h.wb j t ht; omega, h.hi, fun x hx => ?_⟩
  · rcases get_set_eq hs with ⟨_, rfl⟩ | ⟨_, hs⟩
    · have := h.nn r s0 hr; omega
    · have := h.nn q s hs; omega
  · obtain ⟨j, t, e, ht, hq⟩ := h.ex x hx
    refine ⟨j, t, e, ht, fun q s u hs hu => ?_⟩
    rcases get_set_eq hs with ⟨rfl, rfl⟩ | ⟨hne, hs⟩
    · have := hq q s0 u hr hu
      exact ⟨fun _ => by omega, fun ho _ => this.2 ho h0⟩
    · exact hq q s u hs hu
theorem Sv.deep (h : Sv B ss sn wh ws) {r : Nat} {s0 : Int} (hr : ss[r]? = some s0) (h0 : 1 < s0) : Sv B (ss.set r (s0 - 1)) sn wh ws := by
  refine ⟨by simp [h.ls], h.ln, fun q s hs => ?_, h.wb, h.hi, fun x hx => ?_⟩
  · rcases get_set_eq hs with ⟨_, rfl⟩ | ⟨_, hs⟩
    · have := h.nn r s0 hr; omega
    · exact h.nn q s hs
  · obtain ⟨j, t, e, ht, hq⟩ := h.ex x hx
    refine ⟨j, t, e, ht, fun q s u hs hu => ?_⟩
    rcases get_set_eq hs with ⟨rfl, rfl⟩ | ⟨hne, hs⟩
    · have := hq q s0 u hr hu
      exact ⟨fun _ => by omega, fun ho _ => this.2 ho (by omega)⟩
    · exact hq q s u hs hu
theorem Sv.out (h : Sv B ss sn wh ws) {r : Nat} (hr : ss[r]? = some 1) : Sv B (ss.set r 0) sn wh (ws.map (clr r)) := by
  refine ⟨by simp [h.ls], h.ln, fun q s hs => ?_, h.wb, fun q hq x hx => ?_, fun x hx => ?_⟩
  · rcases get_set_eq hs with ⟨_, rfl⟩ | ⟨_, hs⟩
    · have := h.nn r 1 hr; omega
    · exact h.nn q s hs
  · obtain ⟨y, hy, rfl⟩ := List.mem_map.1 hx
    simp only [clr, put]
    split
    · rfl
    · exact h.hi q hq y hy
  · obtain ⟨y, hy, rfl⟩ := List.mem_map.1 hx
    obtain ⟨j, t, e, ht, hq⟩ := h.ex y hy
    refine ⟨j, t, e, ht, fun q s u hs hu => ?_⟩
    simp only [clr, put]
    rcases get_set_eq hs with ⟨rfl, rfl⟩ | ⟨hne, hs⟩
    · rw [if_pos rfl]
      exact ⟨fun h => by simp at h, fun _ h => by omega⟩
    · rw [if_neg hne]
      exact hq q s u hs hu
theorem Sv.defer (h : Sv B ss sn wh ws) : Sv (B + 1) ss sn (wh ++ [B]) (ws ++ [⟨(wh.length : Int), ins ss⟩]) := by
  refine ⟨h.ls, h.ln, fun q s hs => by have := h.nn q s hs; omega, fun j t ht => ?_, fun q hq x hx => ?_, fun x hx => ?_⟩
  · rw [List.getElem?_append] at ht
    split at ht
    · have := h.wb j t ht; omega
    · rw [List.getElem?_singleton] at ht
      split at ht
      · simp at ht; omega
      · simp at ht
  · rcases List.mem_append.1 hx with hx | hx
    · exact h.hi q hq x hx
    · simp at hx
      subst hx
      have : ss[q]? = none := List.getElem?_eq_none (by rw [h.ls]; exact hq)
      simp [ins, this]
  · rcases List.mem_append.1 hx with hx | hx
    · obtain ⟨j, t, e, ht, hq⟩ := h.ex x hx
      have hj := (List.getElem?_eq_some_iff.1 ht).1
      exact ⟨j, t, e, by rw [List.getElem?_append_left hj]; exact ht, hq⟩
    · simp at hx
      subst hx
      refine ⟨wh.length, B, rfl, by simp, fun q s u hs _ => ?_⟩
      simp only [ins, hs]
      exact ⟨fun h => by simpa using h, fun h h' => by simp at h; omega⟩
theorem Sv.held (h : Sv B ss sn wh ws) : Sv B ss sn wh (held ws) :=
  ⟨h.ls, h.ln, h.nn, h.wb, fun q hq x hx => h.hi q hq x (List.mem_filter.1 hx).1, fun x hx => h.ex x (List.mem_filter.1 hx).1⟩
/-- What is told was deferred, and nobody who was inside is inside since. -/
theorem Sv.told (h : Sv B ss sn wh ws) {k : Nat} {d : Int} (hk : (idsOf (free ws))[k]? = some d) : ∃ (j : Nat) (t : Int), d = (j : Int) ∧ wh[j]? = some t ∧ ∀ (q : Nat) (s u : Int), ss[q]? = some s → sn[q]? = some u → 0 < s → t ≤ u := by
  simp only [idsOf, List.getElem?_map, Option.map_eq_some_iff] at hk
  obtain ⟨x, hx, rfl⟩ := hk
  have hm := List.mem_of_getElem? hx
  obtain ⟨h1, h2⟩ := List.mem_filter.1 hm
  obtain ⟨j, t, e, ht, hq⟩ := h.ex x h1
  refine ⟨j, t, e, ht, fun q s u hs hu h0 => ?_⟩
  have hql : q < 4 := by have := (List.getElem?_eq_some_iff.1 hs).1; rw [h.ls] at this; exact this
  exact (hq q s u hs hu).2 ((none8_iff _).1 h2 q (by omega)) h0
theorem Sv.all (h : Sv B ss sn wh ws) (h0 : ∀ (q : Nat) (s : Int), ss[q]? = some s → s = 0) : free ws = ws ∧ Go.Proofs.Ytkgcgfnleabkdaa.held ws = [] := by
  have key : ∀ x ∈ ws, none8 x.on = true := by
    intro x hx
    rw [none8_iff]
    intro k _
    by_cases hk4 : k < 4
    · obtain ⟨j, t, e, ht, hq⟩ := h.ex x hx
      obtain ⟨s, hs⟩ : ∃ s, ss[k]? = some s := ⟨_, List.getElem?_eq_getElem (by rw [h.ls]; exact hk4)⟩
      obtain ⟨u, hu⟩ : ∃ u, sn[k]? = some u := ⟨_, List.getElem?_eq_getElem (by rw [h.ln]; exact hk4)⟩
      have h1 := (hq k s u hs hu).1
      have h2 := h0 k s hs
      cases hon : x.on k
      · rfl
      · have := h1 hon; omega
    · exact h.hi k (by omega) x hx
  constructor
  · unfold free
    rw [List.filter_eq_self]
    exact key
  · unfold Go.Proofs.Ytkgcgfnleabkdaa.held
    rw [List.filter_eq_nil_iff]
    intro x hx
    simp [key x hx]
theorem split_len (ws : List Wt) : (free ws).length + (held ws).length = ws.length := by
  unfold free held
  induction ws with
  | nil => rfl
  | cons x l ih =>
    cases h : none8 x.on <;> simp [h] <;> omega
end Go.Proofs.Ytkgcgfnleabkdaa
