/-
  Slots that are live have an odd generation; how many they are; what taking and freeing a slot does to that. No walk.
-/
import Derived.Test.YtfhphamjalpjpaaLive
import Derived.Test.YtfhphamjalpjpaaSlide
namespace Go.Proofs.Ytfhphamjalpjpaa
open Go.RowKit

def bit (g : Int) : Nat := if g % 2 = 1 then 1 else 0
/-- How many slots are live. -/
def odds : List Slot → Nat
  | [] => 0
  | x :: l => bit x.1 + odds l
theorem odds_append (a b : List Slot) : odds (a ++ b) = odds a + odds b := by
  induction a with
  | nil => simp [odds]
  | cons x l ih => simp [odds, ih]; omega
theorem odds_le (a : List Slot) : odds a ≤ a.length := by
  induction a with
  | nil => simp [odds]
  | cons x l ih => simp only [odds, bit, List.length_cons]; split <;> omega
theorem odds_set : ∀ (gs : List Slot) (i : Nat) (x y : Slot), gs[i]? = some x → odds (gs.set i y) + bit x.1 = odds gs + bit y.1
  | [], i, x, y, h => by simp at h
  | z :: l, 0, x, y, h => by simp at h; subst h; simp [odds]; omega
  | z :: l, i + 1, x, y, h => by
    have := odds_set l i x y (by simpa using h)
    simp [odds]; omega
theorem odds_pos : ∀ (gs : List Slot) (i : Nat) (g v : Int), gs[i]? = some (g, v) → g % 2 = 1 → 0 < odds gs
  | [], i, g, v, h, _ => by simp at h
  | z :: l, 0, g, v, h, ho => by simp at h; subst h; simp [odds, bit, ho]; omega
  | z :: l, i + 1, g, v, h, ho => by
    have := odds_pos l i g v (by simpa using h) ho
    simp [odds]; omega
theorem odds_rep (n : Nat) : odds (List.replicate n (0, 0)) = 0 := by
  induction n with
  | zero => rfl
  | succ n ih => simp [List.replicate_succ, odds, ih, bit]
theorem lives_odds (gs : List Slot) : ∀ i, i ≤ gs.length → (lives gs i).length = odds (gs.take i)
  | 0, _ => by simp [lives, odds]
  | i + 1, h => by
    have ih := lives_odds gs i (by omega)
    have hi : i < gs.length := by omega
    have e : gs.take (i + 1) = gs.take i ++ [gs[i]] := by rw [List.take_add_one, List.getElem?_eq_getElem hi]; rfl
    rw [e, odds_append]
    by_cases ho : gs[i].1 % 2 = 1
    · rw [lives_yes (g := gs[i].1) (v := gs[i].2) (List.getElem?_eq_getElem hi) ho]
      simp [odds, bit, ho, ih]
    · rw [lives_no (g := gs[i].1) (v := gs[i].2) (List.getElem?_eq_getElem hi) ho]
      simp only [odds, bit, ih]; rw [if_neg ho]; omega

/-- An arena's slots and its free ones fit together; no generation is beyond B. -/
structure Fit (n : Nat) (B : Int) (gs : List Slot) (q : List Nat) : Prop where
  gl : gs.length = n
  ct : odds gs + q.length = n
  ev : ∀ k ∈ q, ∃ g v, gs[k]? = some (g, v) ∧ ¬ g % 2 = 1
  nd : q.Nodup
  bd : ∀ (i : Nat) (g v : Int), gs[i]? = some (g, v) → 0 ≤ g ∧ g ≤ B
theorem Fit.start (n : Nat) : Fit n 0 (List.replicate n (0, 0)) (List.range n) := by
  refine ⟨by simp, by rw [odds_rep]; simp, ?_, List.nodup_range, ?_⟩
  · intro k hk
    exact ⟨0, 0, by rw [List.getElem?_replicate, if_pos (by simpa using hk)], by omega⟩
  · intro i g v h
    rw [List.getElem?_replicate] at h
    split at h
    · simp at h; omega
    · simp at h
theorem Fit.mono {n : Nat} {B B' : Int} {gs : List Slot} {q : List Nat} (h : Fit n B gs q) (hB : B ≤ B') : Fit n B' gs q :=
  ⟨h.gl, h.ct, h.ev, h.nd, fun i g v hi => ⟨(h.bd i g v hi).1, Int.le_trans (h.bd i g v hi).2 hB⟩⟩
theorem Fit.nn {n : Nat} {B : Int} {gs : List Slot} {q : List Nat} (h : Fit n B gs q) : ∀ (i : Nat) (g v : Int), gs[i]? = some (g, v) → 0 ≤ g := fun i g v hi => (h.bd i g v hi).1
theorem set_get {gs : List Slot} {k i : Nat} {x : Slot} {g v : Int} (h : (gs.set k x)[i]? = some (g, v)) : (g, v) = x ∨ gs[i]? = some (g, v) := by
  by_cases e : k = i
  · subst e
    have := (List.getElem?_eq_some_iff.1 h).1
    simp at this
    rw [List.getElem?_set_self this] at h
    exact .inl (Option.some.inj h).symm
  · rw [List.getElem?_set_ne e] at h; exact .inr h
theorem Fit.take {n : Nat} {B : Int} {gs : List Slot} {q : List Nat} {k : Nat} {g u v : Int} (h : Fit n B gs (k :: q)) (hk : gs[k]? = some (g, u)) : Fit n (B + 1) (gs.set k (g + 1, v)) q ∧ ¬ g % 2 = 1 := by
  obtain ⟨g', u', e, ho⟩ := h.ev k (by simp)
  rw [hk] at e
  simp at e
  obtain ⟨rfl, rfl⟩ := e
  have hb := h.bd k g u hk
  have hs := odds_set gs k (g, u) (g + 1, v) hk
  have hct := h.ct
  have hnd := List.nodup_cons.1 h.nd
  have b0 : bit g = 0 := by simp [bit, ho]
  have b1 : bit (g + 1) = 1 := by unfold bit; rw [if_pos (by omega)]
  refine ⟨⟨by simp [h.gl], ?_, ?_, hnd.2, ?_⟩, ho⟩
  · simp only [List.length_cons] at hct; simp only [b0, b1] at hs; omega
  · intro j hj
    obtain ⟨g2, v2, e2, o2⟩ := h.ev j (by simp [hj])
    have hne : k ≠ j := by rintro rfl; exact hnd.1 hj
    exact ⟨g2, v2, by rw [List.getElem?_set_ne hne]; exact e2, o2⟩
  · intro i g2 v2 hi
    rcases set_get hi with e | e
    · simp at e; omega
    · have := h.bd i g2 v2 e; omega
theorem Fit.free {n : Nat} {B : Int} {gs : List Slot} {q : List Nat} {s : Nat} {g u v : Int} (h : Fit n B gs q) (hk : gs[s]? = some (g, u)) (ho : g % 2 = 1) : Fit n (B + 1) (gs.set s (g + 1, v)) (q ++ [s]) ∧ q.length < n := by
  have hb := h.bd s g u hk
  have hs := odds_set gs s (g, u) (g + 1, v) hk
  have hp := odds_pos gs s g u hk ho
  have hct := h.ct
  have b0 : bit g = 1 := by simp [bit, ho]
  have b1 : bit (g + 1) = 0 := by unfold bit; rw [if_neg (by omega)]
  have hsq : s ∉ q := by
    intro hq
    obtain ⟨g2, v2, e2, o2⟩ := h.ev s hq
    rw [hk] at e2; simp at e2; omega
  have hsl := (List.getElem?_eq_some_iff.1 hk).1
  simp only [b0, b1] at hs
  refine ⟨⟨by simp [h.gl], by simp; omega, ?_, ?_, ?_⟩, by omega⟩
  · intro j hj
    rcases List.mem_append.1 hj with hj | hj
    · obtain ⟨g2, v2, e2, o2⟩ := h.ev j hj
      have hne : s ≠ j := by rintro rfl; exact hsq hj
      exact ⟨g2, v2, by rw [List.getElem?_set_ne hne]; exact e2, o2⟩
    · simp at hj; subst hj
      exact ⟨g + 1, v, by rw [List.getElem?_set_self hsl], by omega⟩
  · refine List.nodup_append.2 ⟨h.nd, by simp, ?_⟩
    intro a ha b hb e
    simp at hb; subst hb; subst e; exact hsq ha
  · intro i g2 v2 hi
    rcases set_get hi with e | e
    · simp at e; omega
    · have := h.bd i g2 v2 e; omega
theorem Fit.put {n : Nat} {B : Int} {gs : List Slot} {q : List Nat} {s : Nat} {g u v : Int} (h : Fit n B gs q) (hk : gs[s]? = some (g, u)) (ho : g % 2 = 1) : Fit n B (gs.set s (g, v)) q := by
  have hs := odds_set gs s (g, u) (g, v) hk
  have hct := h.ct
  have hb := h.bd s g u hk
  refine ⟨by simp [h.gl], by simp only at hs; omega, ?_, h.nd, ?_⟩
  · intro j hj
    obtain ⟨g2, v2, e2, o2⟩ := h.ev j hj
    have hne : s ≠ j := by rintro rfl; rw [hk] at e2; simp at e2; omega
    exact ⟨g2, v2, by rw [List.getElem?_set_ne hne]; exact e2, o2⟩
  · intro i g2 v2 hi
    rcases set_get hi with e | e
    · simp at e; omega
    · exact h.bd i g2 v2 e
theorem Fit.lives {n : Nat} {B : Int} {gs : List Slot} {q : List Nat} (h : Fit n B gs q) : (lives gs n).length + q.length = n := by
  rw [lives_odds gs n (by rw [h.gl]; omega), ← h.gl, List.take_length, h.gl]
  exact h.ct
end Go.Proofs.Ytfhphamjalpjpaa
