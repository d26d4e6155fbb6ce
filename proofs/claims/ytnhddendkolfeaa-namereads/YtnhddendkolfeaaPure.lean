/-
  Paths as plain lists of bytes: what stands between slashes, what is read, written and cleaned; no program is named here.
-/
import Derived.WalkKit
namespace Go.Proofs.Ytnhddendkolfeaa

/-- What stands between slashes, empty pieces too. -/
def split : List UInt8 → List (List UInt8)
  | [] => [[]]
  | c :: r => if c = 47 then [] :: split r else match split r with
    | [] => [[c]]
    | h :: t => (c :: h) :: t
/-- The parts: those that are not empty. -/
def parts (l : List UInt8) : List (List UInt8) := (split l).filter fun p => !p.isEmpty
def piece (l : List UInt8) : List (List UInt8) := if l = [] then [] else [l]
def before (l : List UInt8) : List UInt8 := l.takeWhile fun c => c != 47
def behind (l : List UInt8) : List UInt8 := (l.dropWhile fun c => c != 47).drop 1

theorem split_ne (l : List UInt8) : split l ≠ [] := by
  cases l with
  | nil => simp [split]
  | cons c r =>
    unfold split
    split
    · simp
    · split <;> simp
theorem split_app (a b : List UInt8) : split (a ++ 47 :: b) = split a ++ split b := by
  induction a with
  | nil => simp [split]
  | cons c r ih =>
    simp only [List.cons_append, split]
    split
    · rw [ih]; simp
    · rw [ih]
      cases h : split r with
      | nil => exact absurd h (split_ne r)
      | cons x t => simp
theorem parts_app (a b : List UInt8) : parts (a ++ 47 :: b) = parts a ++ parts b := by
  unfold parts; rw [split_app, List.filter_append]
theorem split_plain {l : List UInt8} (h : (47 : UInt8) ∉ l) : split l = [l] := by
  induction l with
  | nil => rfl
  | cons c r ih =>
    simp only [List.mem_cons, not_or] at h
    simp [split, ih h.2, Ne.symm h.1]
theorem parts_plain {l : List UInt8} (h : (47 : UInt8) ∉ l) : parts l = piece l := by
  unfold parts piece
  rw [split_plain h]
  cases l <;> simp
theorem parts_nil : parts [] = [] := rfl
theorem parts_slash (r : List UInt8) : parts (47 :: r) = parts r := by
  have := parts_app [] r
  simpa [parts_nil] using this
theorem not_before (l : List UInt8) : (47 : UInt8) ∉ before l := by
  induction l with
  | nil => simp [before]
  | cons c r ih =>
    by_cases hc : c = 47
    · subst hc; simp [before]
    · have e1 : before (c :: r) = c :: before r := by simp [before, hc]
      rw [e1, List.mem_cons, not_or]
      exact ⟨Ne.symm hc, ih⟩
theorem split_at (l : List UInt8) : ((47 : UInt8) ∉ l ∧ before l = l ∧ behind l = []) ∨ l = before l ++ 47 :: behind l := by
  induction l with
  | nil => exact .inl ⟨by simp, rfl, rfl⟩
  | cons c r ih =>
    by_cases hc : c = 47
    · subst hc; exact .inr (by simp [before, behind])
    · have e1 : before (c :: r) = c :: before r := by simp [before, hc]
      have e2 : behind (c :: r) = behind r := by simp [behind, hc]
      rw [e1, e2]
      rcases ih with ⟨h1, h2, h3⟩ | h
      · exact .inl ⟨by simp only [List.mem_cons, not_or]; exact ⟨Ne.symm hc, h1⟩, by rw [h2], h3⟩
      · exact .inr (by rw [List.cons_append, ← h])
theorem parts_cut (l : List UInt8) : parts l = piece (before l) ++ parts (behind l) := by
  rcases split_at l with ⟨h1, h2, h3⟩ | h
  · rw [h2, h3, parts_plain h1]; simp [parts_nil]
  · conv => lhs; rw [h, parts_app, parts_plain (not_before l)]
theorem behind_lt {l : List UInt8} (h : l ≠ []) : (behind l).length < l.length := by
  rcases split_at l with ⟨_, _, h3⟩ | h1
  · rw [h3]; cases l with
    | nil => exact absurd rfl h
    | cons c r => simp
  · conv => rhs; rw [h1]
    simp; omega
theorem behind_le (l : List UInt8) : (behind l).length ≤ l.length := by
  by_cases h : l = []
  · subst h; exact Nat.le_refl _
  · exact Nat.le_of_lt (behind_lt h)
theorem mem_split {l p : List UInt8} (h : p ∈ split l) : ∀ c ∈ p, c ∈ l ∧ c ≠ 47 := by
  induction l generalizing p with
  | nil => simp [split] at h; subst h; simp
  | cons x r ih =>
    unfold split at h
    split at h
    · rcases List.mem_cons.1 h with rfl | h
      · simp
      · intro c hc; exact ⟨List.mem_cons_of_mem _ (ih h c hc).1, (ih h c hc).2⟩
    · rename_i hx
      split at h
      · rename_i hs; exact absurd hs (split_ne r)
      · rename_i y t hs
        rcases List.mem_cons.1 h with rfl | h
        · intro c hc
          rcases List.mem_cons.1 hc with rfl | hc
          · exact ⟨List.mem_cons_self, hx⟩
          · have := ih (p := y) (by rw [hs]; exact List.mem_cons_self) c hc
            exact ⟨List.mem_cons_of_mem _ this.1, this.2⟩
        · intro c hc
          have := ih (p := p) (by rw [hs]; exact List.mem_cons_of_mem _ h) c hc
          exact ⟨List.mem_cons_of_mem _ this.1, this.2⟩
theorem mem_parts {l p : List UInt8} (h : p ∈ parts l) : p ≠ [] ∧ ∀ c ∈ p, c ∈ l ∧ c ≠ 47 := by
  unfold parts at h
  obtain ⟨h1, h2⟩ := List.mem_filter.1 h
  refine ⟨?_, mem_split h1⟩
  rintro rfl
  simp at h2

/-- Part behind part, a slash between. -/
def joinS : List (List UInt8) → List UInt8
  | [] => []
  | p :: r => p ++ (match r with | [] => [] | _ :: _ => 47 :: joinS r)
theorem joinS_one (p : List UInt8) : joinS [p] = p := by simp [joinS]
theorem joinS_cons (p q : List UInt8) (r : List (List UInt8)) : joinS (p :: q :: r) = p ++ 47 :: joinS (q :: r) := by simp [joinS]
def pw (root slash : Bool) (ps : List (List UInt8)) : List UInt8 :=
  (if root then [47] else []) ++ joinS ps ++ (if slash && !ps.isEmpty then [47] else [])

/-- Parts that may be: not empty, without a slash. -/
def Plain (ps : List (List UInt8)) : Prop := ∀ p ∈ ps, p ≠ [] ∧ (47 : UInt8) ∉ p
theorem plain_parts (l : List UInt8) : Plain (parts l) := fun _ hp => ⟨(mem_parts hp).1, fun h => ((mem_parts hp).2 47 h).2 rfl⟩
theorem parts_join {ps : List (List UInt8)} (h : Plain ps) : parts (joinS ps) = ps := by
  induction ps with
  | nil => rfl
  | cons p r ih =>
    obtain ⟨h1, h2⟩ := h p List.mem_cons_self
    have hr : Plain r := fun q hq => h q (List.mem_cons_of_mem _ hq)
    cases r with
    | nil => rw [joinS_one, parts_plain h2]; simp [piece, h1]
    | cons q t => rw [joinS_cons, parts_app, parts_plain h2, ih hr]; simp [piece, h1]
theorem parts_wr {root slash : Bool} {ps : List (List UInt8)} (h : Plain ps) : parts (pw root slash ps) = ps := by
  unfold pw
  have e1 : ∀ m, parts (m ++ (if slash && !ps.isEmpty then [47] else [])) = parts m := by
    intro m; split
    · rw [parts_app, parts_nil, List.append_nil]
    · rw [List.append_nil]
  rw [e1]
  cases root
  · simp [parts_join h]
  · simp only [if_true]; rw [List.singleton_append, parts_slash, parts_join h]

/-- Is a text refused, and why (P7.1)? -/
def err (l : List UInt8) : Int :=
  if l = [] then 32 else if 4096 < l.length then 45 else if (0 : UInt8) ∈ l then 39 else if (parts l).any (fun p => decide (255 < p.length)) then 45 else 0
def rt (l : List UInt8) : Bool := decide (err l = 0) && ([47] : List UInt8).isPrefixOf l
def sl (l : List UInt8) : Bool := decide (err l = 0) && ([47] : List UInt8).isSuffixOf l
def ps (l : List UInt8) : List (List UInt8) := if err l = 0 then parts l else []
def nodots (q : List (List UInt8)) : List (List UInt8) := q.filter fun p => decide (p ≠ [46])
def cl (l : List UInt8) : List UInt8 :=
  if err l = 0 then (if nodots (parts l) = [] ∧ rt l = false then [46] else pw (rt l) (sl l) (nodots (parts l))) else []

theorem err_ok {l : List UInt8} (h : err l = 0) : l ≠ [] ∧ l.length ≤ 4096 ∧ (0 : UInt8) ∉ l ∧ ∀ p ∈ parts l, p.length ≤ 255 := by
  unfold err at h
  split at h
  · omega
  · split at h
    · omega
    · split at h
      · omega
      · split at h
        · omega
        · rename_i h1 h2 h3 h4
          refine ⟨h1, by omega, h3, fun p hp => ?_⟩
          simp only [List.any_eq_true, decide_eq_true_eq, not_exists, not_and] at h4
          have := h4 p hp
          omega
theorem err_of {l : List UInt8} (h1 : l ≠ []) (h2 : l.length ≤ 4096) (h3 : (0 : UInt8) ∉ l) (h4 : ∀ p ∈ parts l, p.length ≤ 255) : err l = 0 := by
  unfold err
  rw [if_neg h1, if_neg (by omega), if_neg h3, if_neg]
  simp only [List.any_eq_true, decide_eq_true_eq, not_exists, not_and]
  intro p hp
  have := h4 p hp
  omega
theorem err_val (l : List UInt8) : err l = 0 ∨ err l = 32 ∨ err l = 39 ∨ err l = 45 := by
  unfold err
  split
  · simp
  · split
    · simp
    · split
      · simp
      · split <;> simp
theorem prefix_cons (c : UInt8) (r : List UInt8) : ([47] : List UInt8).isPrefixOf (c :: r) = (c == 47) := by
  by_cases h : c = 47
  · subst h; rfl
  · have h2 : ((47 : UInt8) == c) = false := by simpa using Ne.symm h
    have h3 : (c == 47) = false := by simpa using h
    rw [h3]; simp [List.isPrefixOf, h2]
theorem suffix_app (a : List UInt8) (c : UInt8) : ([47] : List UInt8).isSuffixOf (a ++ [c]) = (c == 47) := by
  simp only [List.isSuffixOf, List.reverse_append, List.reverse_cons, List.reverse_nil, List.nil_append, List.singleton_append]
  exact prefix_cons c _
theorem suffix_cons (c d : UInt8) (r : List UInt8) : ([47] : List UInt8).isSuffixOf (c :: d :: r) = ([47] : List UInt8).isSuffixOf (d :: r) := by
  obtain ⟨a, x, h⟩ : ∃ a x, d :: r = a ++ [x] := ⟨_, _, (List.dropLast_concat_getLast (by simp)).symm⟩
  rw [h, ← List.cons_append, suffix_app, suffix_app]
theorem suffix_cat (a : List UInt8) {b : List UInt8} (h : b ≠ []) : ([47] : List UInt8).isSuffixOf (a ++ b) = ([47] : List UInt8).isSuffixOf b := by
  obtain ⟨c, x, rfl⟩ : ∃ c x, b = c ++ [x] := ⟨_, _, (List.dropLast_concat_getLast h).symm⟩
  rw [← List.append_assoc, suffix_app, suffix_app]
theorem suffix_nil : ([47] : List UInt8).isSuffixOf [] = false := rfl

/-- The bytes of parts, and one for each. -/
def wt : List (List UInt8) → Nat
  | [] => 0
  | p :: r => p.length + 1 + wt r
theorem wt_app (a b : List (List UInt8)) : wt (a ++ b) = wt a + wt b := by
  induction a with
  | nil => simp [wt]
  | cons p r ih => simp [wt, ih]; omega
theorem wt_filter (f : List UInt8 → Bool) (a : List (List UInt8)) : wt (a.filter f) ≤ wt a := by
  induction a with
  | nil => simp [wt]
  | cons p r ih =>
    rw [List.filter_cons]
    split
    · simp [wt]; omega
    · simp [wt]; omega
theorem wt_piece (l : List UInt8) : wt (piece l) ≤ l.length + 1 := by unfold piece; split <;> simp [wt]
/-- One, unless a text is empty or ends with a slash. -/
def ende (l : List UInt8) : Nat := if l = [] ∨ ([47] : List UInt8).isSuffixOf l = true then 0 else 1
theorem wt_parts (n : Nat) : ∀ l : List UInt8, l.length ≤ n → wt (parts l) ≤ l.length + ende l := by
  induction n with
  | zero =>
    intro l h
    have : l = [] := List.length_eq_zero_iff.1 (by omega)
    subst this
    simp [parts_nil, wt]
  | succ n ih =>
    intro l h
    by_cases h0 : l = []
    · subst h0; simp [parts_nil, wt]
    rw [parts_cut, wt_app]
    rcases split_at l with ⟨h1, h2, h3⟩ | h1
    · rw [h2, h3, parts_nil]
      have hw := wt_piece l
      have he : ende l = 1 := by
        unfold ende
        rw [if_neg]
        rintro (h4 | h4)
        · exact h0 h4
        · obtain ⟨a, x, rfl⟩ : ∃ a x, l = a ++ [x] := ⟨_, _, (List.dropLast_concat_getLast h0).symm⟩
          rw [suffix_app] at h4
          simp at h4 h1
          exact h1.2 h4.symm
      rw [he]; simp [wt]; omega
    · have hl := behind_lt h0
      have i1 := ih (behind l) (by omega)
      have hw := wt_piece (before l)
      have e1 : l.length = (before l).length + 1 + (behind l).length := by
        conv => lhs; rw [h1]
        simp; omega
      have e2 : ende l = ende (behind l) := by
        unfold ende
        by_cases hb : behind l = []
        · have h5 : ([47] : List UInt8).isSuffixOf l = true := by
            rw [hb] at h1
            have h6 := suffix_app (before l) 47
            rw [← h1] at h6
            exact h6
          rw [if_pos (.inr h5), if_pos (.inl hb)]
        · have : ([47] : List UInt8).isSuffixOf l = ([47] : List UInt8).isSuffixOf (behind l) := by
            conv => lhs; rw [h1]
            rw [suffix_cat _ (by simp)]
            have := suffix_cat [47] hb
            simpa using this
          simp only [h0, hb, this, false_or]
      omega
theorem wt_root (l : List UInt8) (h0 : l ≠ []) : wt (parts l) + (([47] : List UInt8).isPrefixOf l).toNat ≤ l.length + ende l := by
  cases l with
  | nil => exact absurd rfl h0
  | cons c r =>
    rw [prefix_cons]
    by_cases hc : c = 47
    · subst hc
      rw [parts_slash]
      have := wt_parts _ r (Nat.le_refl _)
      have e : ende (47 :: r) = ende r := by
        unfold ende
        cases r with
        | nil => rfl
        | cons d t => rw [suffix_cons]; simp
      rw [e]; simp; omega
    · have := wt_parts _ (c :: r) (Nat.le_refl _)
      have h3 : (c == 47) = false := by simpa using hc
      rw [h3]; simpa using this
theorem join_len (q : List (List UInt8)) (h : q ≠ []) : (joinS q).length + 1 = wt q := by
  induction q with
  | nil => exact absurd rfl h
  | cons p r ih =>
    cases r with
    | nil => rw [joinS_one]; simp [wt]
    | cons x t => rw [joinS_cons]; have := ih (by simp); simp [wt] at this ⊢; omega
theorem join_le (q : List (List UInt8)) : (joinS q).length ≤ wt q := by
  by_cases h : q = []
  · subst h; simp [joinS]
  · have := join_len q h; omega
theorem wr_le (a b : Bool) (q : List (List UInt8)) : (pw a b q).length ≤ wt q + 2 := by
  have := join_le q
  unfold pw
  cases a <;> simp <;> split <;> simp <;> omega
/-- What is written of some of a text's parts is no longer than the text. -/
theorem wr_len {l : List UInt8} (h0 : l ≠ []) (f : List UInt8 → Bool) :
    (pw (([47] : List UInt8).isPrefixOf l) (([47] : List UInt8).isSuffixOf l) ((parts l).filter f)).length ≤ l.length := by
  have hw := wt_root l h0
  have hf := wt_filter f (parts l)
  have hl : 1 ≤ l.length := by cases l with
    | nil => exact absurd rfl h0
    | cons _ _ => simp
  by_cases hq : (parts l).filter f = []
  · rw [hq]; unfold pw; split <;> simp [joinS] <;> omega
  · have hj := join_len _ hq
    have he : ende l + (([47] : List UInt8).isSuffixOf l).toNat = 1 := by
      unfold ende
      cases hs : ([47] : List UInt8).isSuffixOf l <;> simp [h0]
    unfold pw
    have hne : ((parts l).filter f).isEmpty = false := by simpa using hq
    rw [hne]
    cases hp : ([47] : List UInt8).isPrefixOf l <;> cases hs : ([47] : List UInt8).isSuffixOf l <;> rw [hp] at hw <;> rw [hs] at he <;> simp at hw he ⊢ <;> omega
end Go.Proofs.Ytnhddendkolfeaa
