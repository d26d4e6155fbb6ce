/-
  Right parts that are written with so many slashes between are read as they were (plain lists of bytes).
-/
import Derived.Test.YtnhddendkolfeaaPureB
import Derived.Test.YtnhddendkolfeaaSlashes
namespace Go.Proofs.Ytnhddendkolfeaa

/-- Part behind part, a bar between. -/
def joinK (bar : List UInt8) : List (List UInt8) → List UInt8
  | [] => []
  | p :: r => p ++ (match r with | [] => [] | _ :: _ => bar ++ joinK bar r)
theorem joinK_one (bar p : List UInt8) : joinK bar [p] = p := by simp [joinK]
theorem joinK_cons (bar p x : List UInt8) (r : List (List UInt8)) : joinK bar (p :: x :: r) = p ++ (bar ++ joinK bar (x :: r)) := by simp [joinK]
theorem joinK_snoc (bar : List UInt8) (q : List (List UInt8)) (x : List UInt8) : joinK bar (q ++ [x]) = joinK bar q ++ ((if q = [] then [] else bar) ++ x) := by
  induction q with
  | nil => simp [joinK]
  | cons p r ih =>
    cases r with
    | nil => rw [List.cons_append, List.nil_append, joinK_cons, joinK_one, joinK_one]; simp
    | cons y t =>
      rw [List.cons_append, List.cons_append, joinK_cons, joinK_cons]
      rw [List.cons_append] at ih
      rw [ih]; simp
theorem joinK_S (q : List (List UInt8)) : joinK [47] q = joinS q := by
  induction q with
  | nil => rfl
  | cons p r ih =>
    cases r with
    | nil => rw [joinK_one, joinS_one]
    | cons y t => rw [joinK_cons, joinS_cons, ih]; rfl
def pk (r s : Bool) (j : Nat) (q : List (List UInt8)) : List UInt8 := (if r then [47] else []) ++ joinK (bars (j + 1)) q ++ (if s then bars (j + 1) else [])
theorem pw_pk {r s : Bool} {q : List (List UInt8)} (h : q ≠ []) : pw r s q = pk r s 0 q := by
  have hne : q.isEmpty = false := by simpa using h
  unfold pw pk
  rw [hne, show bars (0 + 1) = [47] from rfl, joinK_S]
  cases s <;> rfl
theorem bars_succ (n : Nat) : bars (n + 1) = 47 :: bars n := by simp [bars, List.replicate_succ]
theorem parts_bars (n : Nat) (b : List UInt8) : parts (bars n ++ b) = parts b := by
  induction n with
  | zero => rfl
  | succ n ih => rw [bars_succ, List.cons_append, parts_slash, ih]
theorem parts_between (a b : List UInt8) (n : Nat) : parts (a ++ (bars (n + 1) ++ b)) = parts a ++ parts b := by
  rw [bars_succ, List.cons_append, parts_app, parts_bars]
theorem joinK_parts {q : List (List UInt8)} (h : Plain q) (n : Nat) : parts (joinK (bars (n + 1)) q) = q := by
  induction q with
  | nil => rfl
  | cons p r ih =>
    obtain ⟨h1, h2⟩ := h p List.mem_cons_self
    have hr : Plain r := fun x hx => h x (List.mem_cons_of_mem _ hx)
    cases r with
    | nil => rw [joinK_one, parts_plain h2]; simp [piece, h1]
    | cons x t => rw [joinK_cons, parts_between, ih hr, parts_plain h2]; simp [piece, h1]
theorem pk_parts {r s : Bool} {q : List (List UInt8)} (h : Plain q) (n : Nat) : parts (pk r s n q) = q := by
  unfold pk
  have e1 : ∀ m, parts (m ++ (if s then bars (n + 1) else [])) = parts m := by
    intro m; split
    · have := parts_between m [] n
      rw [List.append_nil, parts_nil, List.append_nil] at this
      exact this
    · rw [List.append_nil]
  rw [e1]
  cases r
  · simp [joinK_parts h]
  · simp only [if_true]; rw [List.singleton_append, parts_slash, joinK_parts h]
theorem joinK_head {q : List (List UInt8)} (h : Plain q) (h0 : q ≠ []) (bar t : List UInt8) : ([47] : List UInt8).isPrefixOf (joinK bar q ++ t) = false := by
  cases q with
  | nil => exact absurd rfl h0
  | cons p r =>
    obtain ⟨h1, h2⟩ := h p List.mem_cons_self
    obtain ⟨c, p', rfl⟩ : ∃ c p', p = c :: p' := by
      cases p with
      | nil => exact absurd rfl h1
      | cons c p' => exact ⟨c, p', rfl⟩
    have e : ∃ u, joinK bar ((c :: p') :: r) ++ t = c :: u := by
      cases r with
      | nil => rw [joinK_one]; exact ⟨p' ++ t, rfl⟩
      | cons x y => rw [joinK_cons]; exact ⟨_, rfl⟩
    obtain ⟨u, hu⟩ := e
    rw [hu, prefix_cons]
    simp only [List.mem_cons, not_or] at h2
    simpa using Ne.symm h2.1
theorem joinK_ne {q : List (List UInt8)} (h : Plain q) (h0 : q ≠ []) (bar : List UInt8) : joinK bar q ≠ [] := by
  cases q with
  | nil => exact absurd rfl h0
  | cons p r =>
    obtain ⟨h1, _⟩ := h p List.mem_cons_self
    cases r with
    | nil => rw [joinK_one]; exact h1
    | cons x t => rw [joinK_cons]; simp [h1]
theorem joinK_last {q : List (List UInt8)} (h : Plain q) (bar : List UInt8) : ([47] : List UInt8).isSuffixOf (joinK bar q) = false := by
  induction q with
  | nil => rfl
  | cons p r ih =>
    obtain ⟨h1, h2⟩ := h p List.mem_cons_self
    have hr : Plain r := fun x hx => h x (List.mem_cons_of_mem _ hx)
    cases r with
    | nil => rw [joinK_one]; exact (plain_no h2).2
    | cons x t =>
      have hn := joinK_ne hr (by simp) bar
      rw [joinK_cons, suffix_cat _ (by simp [hn]), suffix_cat _ hn]
      exact ih hr
theorem bars_last (n : Nat) : ([47] : List UInt8).isSuffixOf (bars (n + 1)) = true := by
  unfold bars
  rw [List.replicate_succ', suffix_app]; rfl
theorem pk_prefix {r s : Bool} {q : List (List UInt8)} (h : Plain q) (h0 : q ≠ []) (n : Nat) : ([47] : List UInt8).isPrefixOf (pk r s n q) = r := by
  unfold pk
  cases r with
  | true => simp
  | false =>
    simp only [Bool.false_eq_true, if_false, List.nil_append]
    exact joinK_head h h0 _ _
theorem pk_suffix {r s : Bool} {q : List (List UInt8)} (h : Plain q) (h0 : q ≠ []) (n : Nat) : ([47] : List UInt8).isSuffixOf (pk r s n q) = s := by
  unfold pk
  cases s with
  | true =>
    simp only [if_true]
    rw [suffix_cat _ (by simp [bars_succ])]
    exact bars_last n
  | false =>
    simp only [Bool.false_eq_true, if_false, List.append_nil]
    rw [suffix_cat _ (joinK_ne h h0 _)]
    exact joinK_last h _
theorem joinK_mem {q : List (List UInt8)} {c : UInt8} {n : Nat} (h : c ∈ joinK (bars n) q) : c = 47 ∨ ∃ p ∈ q, c ∈ p := by
  induction q with
  | nil => simp [joinK] at h
  | cons p r ih =>
    cases r with
    | nil => rw [joinK_one] at h; exact .inr ⟨p, List.mem_cons_self, h⟩
    | cons x t =>
      rw [joinK_cons] at h
      rcases List.mem_append.1 h with h | h
      · exact .inr ⟨p, List.mem_cons_self, h⟩
      · rcases List.mem_append.1 h with h | h
        · exact .inl (List.eq_of_mem_replicate h)
        · rcases ih h with h | ⟨y, hy, hc⟩
          · exact .inl h
          · exact .inr ⟨y, List.mem_cons_of_mem _ hy, hc⟩
theorem joinK_len (q : List (List UInt8)) (n : Nat) (h : ∀ p ∈ q, p.length ≤ 255) : (joinK (bars n) q).length ≤ q.length * (255 + n) := by
  induction q with
  | nil => simp [joinK]
  | cons p r ih =>
    have h1 := h p List.mem_cons_self
    have h2 := ih fun x hx => h x (List.mem_cons_of_mem _ hx)
    cases r with
    | nil => rw [joinK_one]; simp; omega
    | cons x t =>
      rw [joinK_cons, List.length_append, List.length_append, bars_len]
      rw [List.length_cons (a := p), Nat.add_mul]
      omega
/-- Names that may be made. -/
def Rights (q : List (List UInt8)) : Prop := ∀ p ∈ q, right p = true
theorem right_ok {p : List UInt8} (h : right p = true) : p ≠ [] ∧ p.length ≤ 255 ∧ (47 : UInt8) ∉ p ∧ (0 : UInt8) ∉ p := by
  unfold right at h
  simp only [Bool.and_eq_true, Bool.not_eq_true', Bool.or_eq_false_iff, decide_eq_false_iff_not, List.isEmpty_eq_false_iff] at h
  obtain ⟨⟨⟨h1, h2⟩, _⟩, h3, h4⟩ := h
  exact ⟨h1, by omega, h3, h4⟩
theorem Rights.plain {q : List (List UInt8)} (h : Rights q) : Plain q := fun p hp => ⟨(right_ok (h p hp)).1, (right_ok (h p hp)).2.2.1⟩
theorem pk_all {r s : Bool} {q : List (List UInt8)} (h : Rights q) (h0 : q ≠ []) (h12 : q.length ≤ 12) (n : Nat) (hn : n ≤ 5) : err (pk r s n q) = 0 ∧ rt (pk r s n q) = r ∧ sl (pk r s n q) = s ∧ ps (pk r s n q) = q := by
  have hp := pk_parts (r := r) (s := s) h.plain n
  have hl := joinK_len q (n + 1) fun p hp => (right_ok (h p hp)).2.1
  have hm : q.length * (255 + (n + 1)) ≤ 12 * 261 := Nat.mul_le_mul h12 (by omega)
  have hlen : (pk r s n q).length ≤ 4096 := by
    unfold pk
    rw [List.length_append, List.length_append]
    have e1 : (if r then ([47] : List UInt8) else []).length ≤ 1 := by split <;> simp
    have e2 : (if s then bars (n + 1) else []).length ≤ n + 1 := by split <;> simp [bars_len]
    omega
  have hz : (0 : UInt8) ∉ pk r s n q := by
    unfold pk
    intro hm
    rcases List.mem_append.1 hm with hm | hm
    · rcases List.mem_append.1 hm with hm | hm
      · split at hm <;> simp at hm
      · rcases joinK_mem hm with e | ⟨p, hp, hc⟩
        · exact absurd e (by decide)
        · exact (right_ok (h p hp)).2.2.2 hc
    · split at hm
      · exact absurd (List.eq_of_mem_replicate hm) (by decide)
      · simp at hm
  have hne : pk r s n q ≠ [] := by
    intro e; rw [e, parts_nil] at hp; exact h0 hp.symm
  have hok : err (pk r s n q) = 0 := err_of hne hlen hz (by rw [hp]; exact fun p hq => (right_ok (h p hq)).2.1)
  refine ⟨hok, ?_, ?_, ?_⟩
  · simp only [rt, hok, decide_true, Bool.true_and]; exact pk_prefix h.plain h0 n
  · simp only [sl, hok, decide_true, Bool.true_and]; exact pk_suffix h.plain h0 n
  · simp only [ps, hok, if_true]; exact hp
end Go.Proofs.Ytnhddendkolfeaa
