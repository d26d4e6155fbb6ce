/-
  What is clean is clean already (plain lists of bytes).
-/
import Derived.Test.YtnhddendkolfeaaPure
namespace Go.Proofs.Ytnhddendkolfeaa

theorem plain_no {p : List UInt8} (h : (47 : UInt8) ∉ p) : ([47] : List UInt8).isPrefixOf p = false ∧ ([47] : List UInt8).isSuffixOf p = false := by
  constructor
  · cases p with
    | nil => rfl
    | cons c r =>
      rw [prefix_cons]
      simp only [List.mem_cons, not_or] at h
      simpa using Ne.symm h.1
  · by_cases h0 : p = []
    · subst h0; rfl
    · obtain ⟨a, x, rfl⟩ : ∃ a x, p = a ++ [x] := ⟨_, _, (List.dropLast_concat_getLast h0).symm⟩
      rw [suffix_app]
      simp only [List.mem_append, List.mem_singleton, not_or] at h
      simpa using Ne.symm h.2
theorem join_ne {q : List (List UInt8)} (h : Plain q) (h0 : q ≠ []) : joinS q ≠ [] := by
  cases q with
  | nil => exact absurd rfl h0
  | cons p r =>
    obtain ⟨h1, _⟩ := h p List.mem_cons_self
    cases r with
    | nil => rw [joinS_one]; exact h1
    | cons x t => rw [joinS_cons]; simp
theorem join_head {q : List (List UInt8)} (h : Plain q) (h0 : q ≠ []) (t : List UInt8) : ([47] : List UInt8).isPrefixOf (joinS q ++ t) = false := by
  cases q with
  | nil => exact absurd rfl h0
  | cons p r =>
    obtain ⟨h1, h2⟩ := h p List.mem_cons_self
    obtain ⟨c, p', rfl⟩ : ∃ c p', p = c :: p' := by
      cases p with
      | nil => exact absurd rfl h1
      | cons c p' => exact ⟨c, p', rfl⟩
    have e : ∃ u, joinS ((c :: p') :: r) ++ t = c :: u := by
      cases r with
      | nil => rw [joinS_one]; exact ⟨p' ++ t, rfl⟩
      | cons x y => rw [joinS_cons]; exact ⟨_, rfl⟩
    obtain ⟨u, hu⟩ := e
    rw [hu, prefix_cons]
    simp only [List.mem_cons, not_or] at h2
    simpa using Ne.symm h2.1
theorem join_last {q : List (List UInt8)} (h : Plain q) : ([47] : List UInt8).isSuffixOf (joinS q) = false := by
  induction q with
  | nil => rfl
  | cons p r ih =>
    obtain ⟨h1, h2⟩ := h p List.mem_cons_self
    have hr : Plain r := fun x hx => h x (List.mem_cons_of_mem _ hx)
    cases r with
    | nil => rw [joinS_one]; exact (plain_no h2).2
    | cons x t =>
      rw [joinS_cons, suffix_cat _ (by simp)]
      have := suffix_cat [47] (join_ne hr (by simp))
      rw [List.singleton_append] at this
      rw [this]; exact ih hr
theorem join_mem {q : List (List UInt8)} {c : UInt8} (h : c ∈ joinS q) : c = 47 ∨ ∃ p ∈ q, c ∈ p := by
  induction q with
  | nil => simp [joinS] at h
  | cons p r ih =>
    cases r with
    | nil => rw [joinS_one] at h; exact .inr ⟨p, List.mem_cons_self, h⟩
    | cons x t =>
      rw [joinS_cons] at h
      rcases List.mem_append.1 h with h | h
      · exact .inr ⟨p, List.mem_cons_self, h⟩
      · rcases List.mem_cons.1 h with h | h
        · exact .inl h
        · rcases ih h with h | ⟨y, hy, hc⟩
          · exact .inl h
          · exact .inr ⟨y, List.mem_cons_of_mem _ hy, hc⟩
theorem pw_mem {r s : Bool} {q : List (List UInt8)} {c : UInt8} (h : c ∈ pw r s q) : c = 47 ∨ ∃ p ∈ q, c ∈ p := by
  unfold pw at h
  rcases List.mem_append.1 h with h | h
  · rcases List.mem_append.1 h with h | h
    · split at h
      · simp at h; exact .inl h
      · simp at h
    · exact join_mem h
  · split at h
    · simp at h; exact .inl h
    · simp at h
theorem pw_prefix {r s : Bool} {q : List (List UInt8)} (h : Plain q) (h0 : q ≠ [] ∨ r = true) : ([47] : List UInt8).isPrefixOf (pw r s q) = r := by
  unfold pw
  cases r with
  | true => simp
  | false =>
    have h1 : q ≠ [] := by simpa using h0
    simp only [Bool.false_eq_true, if_false, List.nil_append]
    exact join_head h h1 _
theorem pw_suffix {r s : Bool} {q : List (List UInt8)} (h : Plain q) (h0 : q ≠ []) : ([47] : List UInt8).isSuffixOf (pw r s q) = s := by
  have hne : q.isEmpty = false := by simpa using h0
  unfold pw
  rw [hne]
  cases s with
  | true => simp only [Bool.not_false, Bool.and_true, if_true]; rw [suffix_app]; rfl
  | false =>
    simp only [Bool.false_and, Bool.false_eq_true, if_false, List.append_nil]
    rw [suffix_cat _ (join_ne h h0)]
    exact join_last h
theorem pw_none (r s : Bool) : pw r s [] = if r then [47] else [] := by unfold pw; cases r <;> simp [joinS]
theorem nodots_mem {q : List (List UInt8)} {p : List UInt8} (h : p ∈ nodots q) : p ∈ q := (List.mem_filter.1 h).1
theorem nodots_again (q : List (List UInt8)) : nodots (nodots q) = nodots q := by unfold nodots; simp
/-- The parts that a clean text has. -/
def want (l : List UInt8) : List (List UInt8) := if nodots (ps l) = [] ∧ rt l = false then [[46]] else nodots (ps l)
theorem clean_again {l : List UInt8} (he : err l = 0) : err (cl l) = 0 ∧ cl (cl l) = cl l ∧ ps (cl l) = want l ∧ rt (cl l) = rt l := by
  obtain ⟨l0, l1, l2, l3⟩ := err_ok he
  have hps : ps l = parts l := by simp [ps, he]
  have hcl : cl l = if nodots (parts l) = [] ∧ rt l = false then [46] else pw (rt l) (sl l) (nodots (parts l)) := by simp [cl, he]
  by_cases h : nodots (parts l) = [] ∧ rt l = false
  · rw [hcl, if_pos h]
    unfold want
    rw [hps, if_pos h, h.2]
    exact ⟨by decide +kernel, by decide +kernel, by decide +kernel, by decide +kernel⟩
  · rw [hcl, if_neg h]
    unfold want
    rw [hps, if_neg h]
    have hrt : rt l = ([47] : List UInt8).isPrefixOf l := by simp [rt, he]
    have hsl : sl l = ([47] : List UInt8).isSuffixOf l := by simp [sl, he]
    have hpl : Plain (nodots (parts l)) := fun p hp => plain_parts l p (nodots_mem hp)
    have hlen : (pw (rt l) (sl l) (nodots (parts l))).length ≤ l.length := by
      rw [hrt, hsl]; exact wr_len l0 _
    have hor : nodots (parts l) ≠ [] ∨ rt l = true := by
      by_cases h1 : nodots (parts l) = []
      · right
        cases hr : rt l with
        | true => rfl
        | false => exact absurd ⟨h1, hr⟩ h
      · exact .inl h1
    have hpar : parts (pw (rt l) (sl l) (nodots (parts l))) = nodots (parts l) := parts_wr hpl
    have hz : (0 : UInt8) ∉ pw (rt l) (sl l) (nodots (parts l)) := by
      intro hm
      rcases pw_mem hm with e | ⟨p, hp, hc⟩
      · exact absurd e (by decide)
      · exact l2 ((mem_parts (nodots_mem hp)).2 0 hc).1
    have hn : ∀ p ∈ nodots (parts l), p.length ≤ 255 := fun p hp => l3 p (nodots_mem hp)
    have hnn := nodots_again (parts l)
    generalize nodots (parts l) = q at *
    generalize hR : rt l = r at *
    generalize hS : sl l = s at *
    have hne : pw r s q ≠ [] := by
      rcases hor with h1 | h1
      · intro e
        rw [e, parts_nil] at hpar
        exact h1 hpar.symm
      · subst h1; simp [pw]
    have hok : err (pw r s q) = 0 := err_of hne (by omega) hz (by rw [hpar]; exact hn)
    have hrc : rt (pw r s q) = r := by simp only [rt, hok, decide_true, Bool.true_and]; exact pw_prefix hpl hor
    have hpc : ps (pw r s q) = q := by simp only [ps, hok, if_true]; exact hpar
    refine ⟨hok, ?_, hpc, hrc⟩
    have hcc : cl (pw r s q) = if nodots q = [] ∧ rt (pw r s q) = false then [46] else pw (rt (pw r s q)) (sl (pw r s q)) (nodots q) := by simp [cl, hok, hpar]
    rw [hcc, hnn, hrc, if_neg h]
    by_cases hq : q = []
    · subst hq
      rw [pw_none, pw_none]
    · have hsc : sl (pw r s q) = s := by simp only [sl, hok, decide_true, Bool.true_and]; exact pw_suffix hpl hq
      rw [hsc]
end Go.Proofs.Ytnhddendkolfeaa
