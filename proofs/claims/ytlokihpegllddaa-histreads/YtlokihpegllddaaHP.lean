/-
  Events and calls as plain data: what Ops answers, and what holds of it.
-/
namespace Go.Proofs.Ytlokihpegllddaa.Cl

/-- A call. -/
structure Cc where
  op : Int
  path : List UInt8
  dst : List UInt8
  fd : Int
  fl : Int
  mo : Int
  n : Int
  m : Int
  data : List UInt8
/-- A result. -/
structure Rr where
  why : Int
  n : Int
  data : List UInt8
  names : List (List UInt8)
  node : Int
  kind : Int
  mode : Int
  uid : Int
  gid : Int
  links : Int
  size : Int
abbrev rr0 : Rr := ⟨0, 0, [], [], 0, 0, 0, 0, 0, 0, 0⟩
abbrev cc0 : Cc := ⟨0, [], [], 0, 0, 0, 0, 0, []⟩
structure Ev where
  kind : Int
  thread : Int
  c : Cc
  r : Rr
/-- A call with its places. -/
structure Op where
  thread : Int
  c : Cc
  r : Rr
  fr : Int
  tt : Int
/-- The calls so far; by thread which of them it has, from 1 on. -/
structure St where
  ops : List Op
  busy : List Nat
def St.set (s : St) (k : Nat) (e : Ev) (t : Nat) : St := ⟨s.ops.modify (s.busy.getD t 0 - 1) fun o => { o with r := e.r, tt := (k : Int) }, s.busy.set t 0⟩
def St.add (s : St) (k : Nat) (e : Ev) (t : Nat) : St := ⟨s.ops ++ [⟨(t : Int), e.c, rr0, (k : Int), -1⟩], s.busy.set t (s.ops.length + 1)⟩
/-- An event at place k. -/
def stepE (s : St) (k : Nat) (e : Ev) : Option St :=
  if e.kind = 3 then some s
  else if e.thread < 0 ∨ 8 ≤ e.thread then none
  else if e.kind = 1 ∧ s.busy.getD e.thread.toNat 0 = 0 then some (s.add k e e.thread.toNat)
  else if e.kind = 2 ∧ s.busy.getD e.thread.toNat 0 ≠ 0 then some (s.set k e e.thread.toNat)
  else none
/-- The events from place k on: the state behind them, or the place of the first that may not be. -/
def goE : List Ev → Nat → St → St ⊕ Nat
  | [], _, s => .inl s
  | e :: es, k, s => match stepE s k e with
    | none => .inr k
    | some s' => goE es (k + 1) s'
def st0 : St := ⟨[], [0, 0, 0, 0, 0, 0, 0, 0]⟩
/-- What Ops answers. -/
def opsOf (es : List Ev) : List Op × Int × Int := match goE es 0 st0 with
  | .inl s => (s.ops, 0, 0)
  | .inr k => ([], 12, (k : Int))
theorem goE_app (es : List Ev) (e : Ev) (k : Nat) (s : St) : ∀ s', goE es k s = .inl s' → goE (es ++ [e]) k s = (match stepE s' (k + es.length) e with | none => .inr (k + es.length) | some s2 => .inl s2) := by
  induction es generalizing k s with
  | nil => intro s' h; simp [goE] at h; subst h; simp [goE]
  | cons x xs ih =>
    intro s' h
    simp only [goE, List.cons_append] at h ⊢
    cases hx : stepE s k x with
    | none => rw [hx] at h; cases h
    | some s1 =>
      rw [hx] at h
      simp only at h ⊢
      rw [ih (k + 1) s1 s' h]
      simp [Nat.add_assoc, Nat.add_comm 1]
theorem goE_stop (es fs : List Ev) (k : Nat) (s : St) : ∀ j, goE es k s = .inr j → goE (es ++ fs) k s = .inr j := by
  induction es generalizing k s with
  | nil => intro j h; simp [goE] at h
  | cons x xs ih =>
    intro j h
    simp only [goE, List.cons_append] at h ⊢
    cases hx : stepE s k x with
    | none => rw [hx] at h; exact h
    | some s1 =>
      rw [hx] at h
      exact ih (k + 1) s1 j h

/-- How many events are of a kind; how many calls have returned. -/
def cnt (d : Int) (es : List Ev) : Nat := es.countP fun e => e.kind == d
def ended (l : List Op) : Nat := l.countP fun o => decide (0 ≤ o.tt)
/-- What holds of the state at place k, behind the events es. -/
structure Inv (s : St) (k : Nat) : Prop where
  bl : s.busy.length = 8
  be : ∀ (t : Nat), s.busy.getD t 0 ≤ s.ops.length
  th : ∀ (i : Nat) (o : Op), s.ops[i]? = some o → 0 ≤ o.thread ∧ o.thread < 8
  fr : ∀ (i : Nat) (o : Op), s.ops[i]? = some o → 0 ≤ o.fr ∧ o.fr < (k : Int)
  tt : ∀ (i : Nat) (o : Op), s.ops[i]? = some o → (o.tt = -1 ∧ o.r = rr0) ∨ (o.fr < o.tt ∧ o.tt < (k : Int))
  up : ∀ (i j : Nat) (o p : Op), i < j → s.ops[i]? = some o → s.ops[j]? = some p → o.fr < p.fr
  bu : ∀ (i : Nat) (o : Op), s.ops[i]? = some o → (o.tt = -1 ↔ s.busy.getD o.thread.toNat 0 = i + 1)
  ub : ∀ (t n : Nat), s.busy.getD t 0 = n + 1 → ∃ o : Op, s.ops[n]? = some o ∧ o.thread = (t : Int)
  on : ∀ (i j : Nat) (o p : Op), i < j → s.ops[i]? = some o → s.ops[j]? = some p → o.thread = p.thread → 0 ≤ o.tt ∧ o.tt < p.fr
theorem Inv.start : Inv st0 0 := by
  refine ⟨rfl, ?_, ?_, ?_, ?_, ?_, ?_, ?_, ?_⟩
  · intro t
    match t with
    | 0 | 1 | 2 | 3 | 4 | 5 | 6 | 7 => simp [st0]
    | (t + 8) => simp [st0]
  all_goals first | (intro i o h; simp [st0] at h) | (intro i j o p hij h; simp [st0] at h) | skip
  match i, h with
  | 0, h | 1, h | 2, h | 3, h | 4, h | 5, h | 6, h | 7, h => simp at h
  | (i + 8), h => simp at h
theorem getD_set (l : List Nat) (i j v : Nat) (h : i < l.length) : (l.set i v).getD j 0 = if i = j then v else l.getD j 0 := by
  simp only [List.getD, List.getElem?_set, h]
  split <;> rfl
theorem Inv.skip {s : St} {k : Nat} (h : Inv s k) : Inv s (k + 1) where
  bl := h.bl
  be := h.be
  th := h.th
  fr i o e := by have := h.fr i o e; omega
  tt i o e := (h.tt i o e).imp id fun h => ⟨h.1, by have := h.2; omega⟩
  up := h.up
  bu := h.bu
  ub := h.ub
  on := h.on
theorem Inv.add {s : St} {k : Nat} (h : Inv s k) (e : Ev) (t : Nat) (ht : t < 8) (h0 : s.busy.getD t 0 = 0) : Inv (s.add k e t) (k + 1) := by
  have hbl := h.bl
  have hget : ∀ (i : Nat) (o : Op), (s.ops ++ [⟨(t : Int), e.c, rr0, (k : Int), -1⟩])[i]? = some o → (s.ops[i]? = some o ∧ i < s.ops.length) ∨ (i = s.ops.length ∧ o = ⟨(t : Int), e.c, rr0, (k : Int), -1⟩) := by
    intro i o hi
    rcases Nat.lt_or_ge i s.ops.length with hl | hl
    · rw [List.getElem?_append_left hl] at hi
      exact .inl ⟨hi, hl⟩
    · rw [List.getElem?_append_right hl] at hi
      cases hk : i - s.ops.length with
      | zero => rw [hk] at hi; simp at hi; exact .inr ⟨by omega, hi.symm⟩
      | succ n => rw [hk] at hi; simp at hi
  have hbt : ∀ u, (s.busy.set t (s.ops.length + 1)).getD u 0 = if t = u then s.ops.length + 1 else s.busy.getD u 0 := fun u => getD_set _ _ _ _ (by omega)
  have hth : ∀ (i : Nat) (o : Op), s.ops[i]? = some o → o.thread = (t : Int) → o.tt ≠ -1 := by
    intro i o hi hot htt
    have h1 := (h.bu i o hi).1 htt
    rw [hot, Int.toNat_natCast, h0] at h1
    omega
  refine ⟨by simp [St.add, hbl], ?_, ?_, ?_, ?_, ?_, ?_, ?_, ?_⟩
  · intro u
    simp only [St.add, hbt, List.length_append, List.length_cons, List.length_nil]
    split
    · omega
    · have := h.be u; omega
  · intro i o hi
    rcases hget i o hi with ⟨h1, -⟩ | ⟨-, rfl⟩
    · exact h.th i o h1
    · simp; omega
  · intro i o hi
    rcases hget i o hi with ⟨h1, -⟩ | ⟨-, rfl⟩
    · have := h.fr i o h1; omega
    · simp; omega
  · intro i o hi
    rcases hget i o hi with ⟨h1, -⟩ | ⟨-, rfl⟩
    · exact (h.tt i o h1).imp id fun h => ⟨h.1, by have := h.2; omega⟩
    · simp
  · intro i j o p hij hi hj
    rcases hget j p hj with ⟨h1, h2⟩ | ⟨h1, rfl⟩
    · rcases hget i o hi with ⟨h3, -⟩ | ⟨h3, -⟩
      · exact h.up i j o p hij h3 h1
      · omega
    · rcases hget i o hi with ⟨h3, -⟩ | ⟨h3, -⟩
      · exact (h.fr i o h3).2
      · omega
  · intro i o hi
    simp only [St.add, hbt]
    rcases hget i o hi with ⟨h1, h2⟩ | ⟨h1, rfl⟩
    · by_cases hot : t = o.thread.toNat
      · rw [if_pos hot]
        have h3 := h.th i o h1
        have := hth i o h1 (by omega)
        constructor
        · intro h4; exact absurd h4 this
        · intro h4; omega
      · rw [if_neg hot]
        exact h.bu i o h1
    · simp [h1]
  · intro u n hu
    simp only [St.add, hbt] at hu ⊢
    split at hu
    · rename_i htu
      obtain rfl : n = s.ops.length := by omega
      exact ⟨⟨(t : Int), e.c, rr0, (k : Int), -1⟩, by simp, by simp [htu]⟩
    · obtain ⟨o, h1, h2⟩ := h.ub u n hu
      exact ⟨o, by rw [List.getElem?_append_left (List.getElem?_eq_some_iff.1 h1).1]; exact h1, h2⟩
  · intro i j o p hij hi hj hop
    rcases hget j p hj with ⟨h1, h2⟩ | ⟨h1, rfl⟩
    · rcases hget i o hi with ⟨h3, -⟩ | ⟨h3, -⟩
      · exact h.on i j o p hij h3 h1 hop
      · omega
    · rcases hget i o hi with ⟨h3, -⟩ | ⟨h3, -⟩
      · have h4 := hth i o h3 hop
        have h5 := h.tt i o h3
        have h6 := h.fr i o h3
        simp only
        omega
      · omega
theorem Inv.set {s : St} {k : Nat} (h : Inv s k) (e : Ev) (t : Nat) (ht : t < 8) (h0 : s.busy.getD t 0 ≠ 0) : Inv (s.set k e t) (k + 1) := by
  have hbl := h.bl
  obtain ⟨n, hn⟩ : ∃ n, s.busy.getD t 0 = n + 1 := ⟨s.busy.getD t 0 - 1, by omega⟩
  obtain ⟨q, hq1, hq2⟩ := h.ub t n hn
  have hq3 : q.tt = -1 := (h.bu n q hq1).2 (by rw [hq2, Int.toNat_natCast]; exact hn)
  have hfq := h.fr n q hq1
  have hget : ∀ (i : Nat) (o : Op), (s.ops.modify n fun o => { o with r := e.r, tt := (k : Int) })[i]? = some o → (s.ops[i]? = some o ∧ i ≠ n) ∨ (i = n ∧ o = { q with r := e.r, tt := (k : Int) }) := by
    intro i o hi
    rw [List.getElem?_modify] at hi
    by_cases hin : n = i
    · subst hin
      rw [hq1] at hi
      simp at hi
      exact .inr ⟨rfl, hi.symm⟩
    · simp [hin] at hi
      exact .inl ⟨hi, fun e => hin e.symm⟩
  have hbt : ∀ u, (s.busy.set t 0).getD u 0 = if t = u then 0 else s.busy.getD u 0 := fun u => getD_set _ _ _ _ (by omega)
  unfold St.set
  rw [hn, Nat.add_sub_cancel]
  have hone : ∀ (i : Nat) (o : Op), s.ops[i]? = some o → i ≠ n → o.thread = (t : Int) → o.tt ≠ -1 := by
    intro i o hi hin hot htt
    have h1 := (h.bu i o hi).1 htt
    rw [hot, Int.toNat_natCast, hn] at h1
    omega
  refine ⟨by simp [hbl], ?_, ?_, ?_, ?_, ?_, ?_, ?_, ?_⟩
  · intro u
    simp only [hbt, List.length_modify]
    split
    · omega
    · exact h.be u
  · intro i o hi
    rcases hget i o hi with ⟨h1, -⟩ | ⟨-, rfl⟩
    · exact h.th i o h1
    · exact h.th n q hq1
  · intro i o hi
    rcases hget i o hi with ⟨h1, -⟩ | ⟨-, rfl⟩
    · have := h.fr i o h1; omega
    · simp only; omega
  · intro i o hi
    rcases hget i o hi with ⟨h1, -⟩ | ⟨-, rfl⟩
    · exact (h.tt i o h1).imp id fun h => ⟨h.1, by have := h.2; omega⟩
    · right; simp only; omega
  · intro i j o p hij hi hj
    rcases hget i o hi with ⟨h1, -⟩ | ⟨h1, rfl⟩ <;> rcases hget j p hj with ⟨h3, -⟩ | ⟨h3, rfl⟩
    · exact h.up i j o p hij h1 h3
    · subst h3; exact h.up i j o q hij h1 hq1
    · subst h1; exact h.up i j q p hij hq1 h3
    · omega
  · intro i o hi
    simp only [hbt]
    rcases hget i o hi with ⟨h1, h2⟩ | ⟨h1, rfl⟩
    · by_cases hot : t = o.thread.toNat
      · rw [if_pos hot]
        have h3 := h.th i o h1
        have := hone i o h1 h2 (by omega)
        constructor
        · intro h4; exact absurd h4 this
        · intro h4; omega
      · rw [if_neg hot]
        exact h.bu i o h1
    · simp only [hq2, Int.toNat_natCast, if_true]
      omega
  · intro u m hu
    simp only [hbt] at hu ⊢
    split at hu
    · omega
    · rename_i htu
      obtain ⟨o, h1, h2⟩ := h.ub u m hu
      have hmn : m ≠ n := by
        rintro rfl
        rw [hq1] at h1
        obtain rfl := Option.some.inj h1
        omega
      exact ⟨o, by rw [List.getElem?_modify]; simp [h1]; intro e; exact absurd e.symm hmn, h2⟩
  · intro i j o p hij hi hj hop
    rcases hget i o hi with ⟨h1, h2⟩ | ⟨h1, rfl⟩ <;> rcases hget j p hj with ⟨h3, h4⟩ | ⟨h3, rfl⟩
    · exact h.on i j o p hij h1 h3 hop
    · subst h3; exact h.on i j o q hij h1 hq1 hop
    · subst h1
      have h5 := (h.on i j q p hij hq1 h3 hop).1
      omega
    · omega
theorem Inv.step {s s' : St} {k : Nat} {e : Ev} (h : Inv s k) (hs : stepE s k e = some s') : Inv s' (k + 1) := by
  unfold stepE at hs
  split at hs
  · simp at hs; subst hs; exact h.skip
  · split at hs
    · cases hs
    · rename_i ht
      split at hs
      · rename_i h1; simp at hs; subst hs; exact h.add e _ (by omega) h1.2
      · split at hs
        · rename_i h1; simp at hs; subst hs; exact h.set e _ (by omega) h1.2
        · cases hs
/-- How many there are. -/
theorem count_step {s s' : St} {k : Nat} {e : Ev} (h : Inv s k) (hs : stepE s k e = some s') : s'.ops.length = s.ops.length + (if e.kind = 1 then 1 else 0) ∧ ended s'.ops = ended s.ops + (if e.kind = 2 then 1 else 0) := by
  unfold stepE at hs
  split at hs
  · rename_i h3; simp at hs; subst hs; simp [h3]
  · split at hs
    · cases hs
    · rename_i ht
      split at hs
      · rename_i h1; simp at hs; subst hs; simp [St.add, h1.1, ended]
      · split at hs
        · rename_i h1
          simp at hs; subst hs
          obtain ⟨n, hn⟩ : ∃ n, s.busy.getD e.thread.toNat 0 = n + 1 := ⟨s.busy.getD e.thread.toNat 0 - 1, by omega⟩
          obtain ⟨q, hq1, hq2⟩ := h.ub _ n hn
          have hq3 : q.tt = -1 := (h.bu n q hq1).2 (by rw [hq2, Int.toNat_natCast]; exact hn)
          have key : ∀ (l : List Op) (n : Nat) (q : Op), l[n]? = some q → q.tt = -1 → ended (l.modify n fun o => { o with r := e.r, tt := (k : Int) }) = ended l + 1 := by
            intro l
            induction l with
            | nil => intro n q h; simp at h
            | cons x xs ih =>
              intro n q h1 h2
              cases n with
              | zero =>
                simp at h1
                subst h1
                have h3 : decide (0 ≤ x.tt) = false := by simp [h2]
                simp [ended, h3]
              | succ n =>
                simp at h1
                have := ih n q h1 h2
                simp only [ended, List.modify_succ_cons, List.countP_cons] at this ⊢
                omega
          simp only [St.set, hn, Nat.add_sub_cancel, List.length_modify, h1.1]
          rw [key _ _ _ hq1 hq3]
          simp
        · cases hs
theorem Inv.go {es : List Ev} : ∀ {k : Nat} {s s' : St}, Inv s k → goE es k s = .inl s' → Inv s' (k + es.length) ∧ s'.ops.length = s.ops.length + cnt 1 es ∧ ended s'.ops = ended s.ops + cnt 2 es := by
  induction es with
  | nil => intro k s s' h hg; simp [goE] at hg; subst hg; exact ⟨h, by simp [cnt], by simp [cnt]⟩
  | cons e es ih =>
    intro k s s' h hg
    simp only [goE] at hg
    cases hx : stepE s k e with
    | none => rw [hx] at hg; cases hg
    | some s1 =>
      rw [hx] at hg
      obtain ⟨h1, h2, h3⟩ := ih (h.step hx) hg
      obtain ⟨h4, h5⟩ := count_step h hx
      refine ⟨by rw [List.length_cons, Nat.add_comm es.length 1, ← Nat.add_assoc]; exact h1, ?_, ?_⟩
      · rw [h2, h4]
        simp only [cnt, List.countP_cons, beq_iff_eq]
        omega
      · rw [h3, h5]
        simp only [cnt, List.countP_cons, beq_iff_eq]
        omega
/-- Rows of calls as Ops answers them. -/
structure Good (l : List Op) : Prop where
  th : ∀ (i : Nat) (o : Op), l[i]? = some o → 0 ≤ o.thread ∧ o.thread < 8
  fr : ∀ (i : Nat) (o : Op), l[i]? = some o → 0 ≤ o.fr
  tt : ∀ (i : Nat) (o : Op), l[i]? = some o → (o.tt = -1 ∧ o.r = rr0) ∨ o.fr < o.tt
  up : ∀ (i j : Nat) (o p : Op), i < j → l[i]? = some o → l[j]? = some p → o.fr < p.fr
  on : ∀ (i j : Nat) (o p : Op), i < j → l[i]? = some o → l[j]? = some p → o.thread = p.thread → 0 ≤ o.tt ∧ o.tt < p.fr
theorem Good.nil : Good [] := by
  refine ⟨?_, ?_, ?_, ?_, ?_⟩
  all_goals first | (intro i o h; simp at h) | (intro i j o p hij h; simp at h)
theorem good_of (es : List Ev) : Good (opsOf es).1 := by
  unfold opsOf
  cases hg : goE es 0 st0 with
  | inr k => exact Good.nil
  | inl s =>
    obtain ⟨h, -, -⟩ := Inv.go Inv.start hg
    exact ⟨h.th, fun i o e => (h.fr i o e).1, fun i o e => (h.tt i o e).imp id And.left, h.up, h.on⟩
theorem count_of (es : List Ev) (h : (opsOf es).2.1 = 0) : (opsOf es).1.length = cnt 1 es ∧ ended (opsOf es).1 = cnt 2 es := by
  unfold opsOf at h ⊢
  cases hg : goE es 0 st0 with
  | inr k => rw [hg] at h; simp at h
  | inl s =>
    obtain ⟨-, h2, h3⟩ := Inv.go Inv.start hg
    simp [st0, ended] at h2 h3
    exact ⟨h2, h3⟩
theorem none_of (es : List Ev) (h : (opsOf es).2.1 ≠ 0) : (opsOf es).1 = [] ∧ (opsOf es).2.1 = 12 := by
  unfold opsOf at h ⊢
  cases hg : goE es 0 st0 with
  | inr k => exact ⟨rfl, rfl⟩
  | inl s => rw [hg] at h; simp at h
/-- One ahead of the other. -/
def bef (a b : Op) : Bool := decide (0 ≤ a.tt) && decide (a.tt < b.fr)
/-- One behind the other: of each two neighbours. -/
def serial : List Op → Bool
  | a :: b :: l => bef a b && serial (b :: l)
  | _ => true
theorem serial_iff (l : List Op) : serial l = true ↔ ∀ (i : Nat) (o p : Op), l[i]? = some o → l[i + 1]? = some p → bef o p = true := by
  induction l with
  | nil => simp [serial]
  | cons a l ih =>
    cases l with
    | nil => simp [serial]
    | cons b l =>
      simp only [serial, Bool.and_eq_true, ih]
      constructor
      · rintro ⟨h1, h2⟩ i o p hi hp
        cases i with
        | zero => simp at hi hp; subst hi hp; exact h1
        | succ i => exact h2 i o p (by simpa using hi) (by simpa using hp)
      · intro h
        exact ⟨h 0 a b rfl rfl, fun i o p hi hp => h (i + 1) o p (by simpa using hi) (by simpa using hp)⟩
/-- .. and so of each two. -/
theorem Good.bef_no {l : List Op} (h : Good l) {i j : Nat} {o p : Op} (hij : i ≤ j) (hi : l[i]? = some o) (hj : l[j]? = some p) : bef p o = false := by
  have h1 := h.tt j p hj
  have h2 : o.fr ≤ p.fr := by
    rcases Nat.lt_or_eq_of_le hij with h3 | rfl
    · exact Int.le_of_lt (h.up i j o p h3 hi hj)
    · rw [hi] at hj; obtain rfl := Option.some.inj hj; exact Int.le_refl _
  simp [bef]
  intro h4
  omega
theorem Good.serial_all {l : List Op} (h : Good l) (hs : serial l = true) {i j : Nat} {o p : Op} (hij : i < j) (hi : l[i]? = some o) (hj : l[j]? = some p) : bef o p = true := by
  rw [serial_iff] at hs
  obtain ⟨q, hq⟩ : ∃ q, l[i + 1]? = some q := ⟨_, List.getElem?_eq_getElem (by have := (List.getElem?_eq_some_iff.1 hj).1; omega)⟩
  have h1 := hs i o q hi hq
  have h2 : q.fr ≤ p.fr := by
    rcases Nat.lt_or_eq_of_le (show i + 1 ≤ j from hij) with h3 | h3
    · exact Int.le_of_lt (h.up (i + 1) j q p h3 hq hj)
    · subst h3; rw [hq] at hj; obtain rfl := Option.some.inj hj; exact Int.le_refl _
  simp [bef] at h1 ⊢
  omega
end Go.Proofs.Ytlokihpegllddaa.Cl
