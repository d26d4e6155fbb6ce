/-
  Plain reasoning on files that are open: no two of one process and descriptor; what is found behind each call; how many there are, told by processes and descriptors.
-/
import Derived.Test.YtocaonbmijmbmaaPure
namespace Go.Proofs.Ytocaonbmijmbmaa

structure Wf (es : List Op) : Prop where
  rng : ∀ o ∈ es, (0 ≤ o.p ∧ o.p < 8) ∧ (0 ≤ o.d ∧ o.d < 8)
  nd : es.Pairwise (fun a b => ¬ (a.p = b.p ∧ a.d = b.d))
theorem Wf.nil : Wf [] := ⟨by simp, .nil⟩
theorem Wf.tail {x : Op} {es : List Op} (h : Wf (x :: es)) : Wf es := ⟨fun o ho => h.rng o (List.mem_cons_of_mem _ ho), (List.pairwise_cons.1 h.nd).2⟩
theorem Wf.uniq {es : List Op} (h : Wf es) {i j : Nat} {a b : Op} (hi : es[i]? = some a) (hj : es[j]? = some b) (hp : a.p = b.p) (hd : a.d = b.d) : i = j := by
  obtain ⟨li, rfl⟩ := List.getElem?_eq_some_iff.1 hi
  obtain ⟨lj, rfl⟩ := List.getElem?_eq_some_iff.1 hj
  have hP := List.pairwise_iff_getElem.1 h.nd
  rcases Nat.lt_trichotomy i j with e | e | e
  · exact absurd ⟨hp, hd⟩ (hP i j li lj e)
  · exact e
  · exact absurd ⟨hp.symm, hd.symm⟩ (hP j i lj li e)
theorem Wf.mem_uniq {es : List Op} (h : Wf es) {a b : Op} (ha : a ∈ es) (hb : b ∈ es) (hp : a.p = b.p) (hd : a.d = b.d) : a = b := by
  obtain ⟨i, hi⟩ := List.mem_iff_getElem?.1 ha
  obtain ⟨j, hj⟩ := List.mem_iff_getElem?.1 hb
  have := h.uniq hi hj hp hd
  subst this
  rw [hi] at hj; cases hj; rfl

/-- The file of p's descriptor d. -/
def getO (es : List Op) (p d : Int) : Option Op := es.find? (isPd p d)
theorem isPd_iff {p d : Int} {o : Op} : isPd p d o = true ↔ o.p = p ∧ o.d = d := by simp [isPd]
theorem getO_some {es : List Op} (h : Wf es) {p d : Int} {o : Op} : getO es p d = some o ↔ o ∈ es ∧ o.p = p ∧ o.d = d := by
  constructor
  · intro e
    have h1 := List.mem_of_find?_eq_some e
    have h2 := List.find?_some e
    rw [isPd_iff] at h2
    exact ⟨h1, h2⟩
  · rintro ⟨h1, h2, h3⟩
    cases e : getO es p d with
    | none =>
      have := List.find?_eq_none.1 e o h1
      rw [isPd_iff] at this
      exact absurd ⟨h2, h3⟩ this
    | some o' =>
      have h4 := List.mem_of_find?_eq_some e
      have h5 := List.find?_some e
      rw [isPd_iff] at h5
      rw [h.mem_uniq h4 h1 (by omega) (by omega)]
theorem getO_none {es : List Op} {p d : Int} : getO es p d = none ↔ ∀ o ∈ es, ¬ (o.p = p ∧ o.d = d) := by
  unfold getO
  rw [List.find?_eq_none]
  simp only [isPd_iff]
theorem getO_used {es : List Op} {p : Int} {j : Nat} : used es p j = (getO es p j).isSome := by
  unfold used getO
  cases e : es.find? (isPd p j) with
  | none => show es.any _ = false; rw [List.any_eq_false]; intro o ho; exact List.find?_eq_none.1 e o ho
  | some o => show es.any _ = true; rw [List.any_eq_true]; exact ⟨o, List.mem_of_find?_eq_some e, List.find?_some e⟩
theorem getO_idx {es : List Op} {p d : Int} : (getO es p d).isSome = decide (fdI es p d < es.length) := by
  unfold getO fdI
  cases e : es.find? (isPd p d) with
  | none =>
    have h := List.find?_eq_none.1 e
    have : ¬ es.findIdx (isPd p d) < es.length := by
      rw [List.findIdx_lt_length]
      rintro ⟨o, ho, hp⟩
      exact h o ho hp
    simp [this]
  | some o =>
    have : es.findIdx (isPd p d) < es.length := List.findIdx_lt_length.2 ⟨o, List.mem_of_find?_eq_some e, List.find?_some e⟩
    simp [this]
theorem isP_iff {p : Int} : isP p = true ↔ 0 ≤ p ∧ p < 8 := by simp [isP]
theorem findE_eq (es : List Op) (p d : Int) : findE es p d = if isP p = true then (if (getO es p d).isSome = true then 0 else 33) else 1 := by
  unfold findE
  rw [getO_idx]
  simp only [decide_eq_true_eq]
theorem findE_zero_iff {es : List Op} (h : Wf es) {p d : Int} : findE es p d = 0 ↔ (getO es p d).isSome = true := by
  rw [findE_eq]
  constructor
  · intro e; split at e
    · split at e
      · assumption
      · simp at e
    · simp at e
  · intro e
    obtain ⟨o, ho⟩ := Option.isSome_iff_exists.1 e
    obtain ⟨h1, h2, h3⟩ := (getO_some h).1 ho
    have := (h.rng o h1).1
    rw [if_pos (isP_iff.2 (by omega)), if_pos e]
theorem getV_eq {es : List Op} (h : Wf es) (p d : Int) : getV es p d = (getO es p d).getD o0 := by
  unfold getV
  by_cases e : findE es p d = 0
  · rw [if_pos e]
    obtain ⟨-, -, -, o, ho, hp, hd⟩ := findE_zero e
    rw [ho, (getO_some h).2 ⟨List.mem_of_getElem? ho, hp, hd⟩]
  · rw [if_neg e]
    rw [findE_zero_iff h] at e
    cases e2 : getO es p d with
    | none => rfl
    | some o => rw [e2] at e; simp at e
theorem fdI_at {es : List Op} (h : Wf es) {k : Nat} {o : Op} (hk : es[k]? = some o) : fdI es o.p o.d = k ∧ findE es o.p o.d = 0 ∧ getV es o.p o.d = o := by
  have hs : getO es o.p o.d = some o := (getO_some h).2 ⟨List.mem_of_getElem? hk, rfl, rfl⟩
  have h0 : findE es o.p o.d = 0 := (findE_zero_iff h).2 (by rw [hs]; rfl)
  obtain ⟨-, -, -, o', ho', hp, hd⟩ := findE_zero h0
  have := h.uniq ho' hk hp hd
  refine ⟨this, h0, ?_⟩
  rw [getV_eq h, hs]; rfl

/-- Open. -/
theorem Wf.open {es : List Op} (h : Wf es) {n : Nat} {p m k f : Int} (h64 : es.length ≤ 64) : Wf (openL es n p m k f) := by
  unfold openL
  split
  · rename_i he
    obtain ⟨hp, h8, -⟩ := roomE_zero he
    obtain ⟨l1, l2, l3⟩ := low_spec p h64
    rw [isP_iff] at hp
    refine ⟨fun o ho => ?_, ?_⟩
    · rcases List.mem_append.1 ho with ho | ho
      · exact h.rng o ho
      · simp at ho; subst ho
        refine ⟨hp, by simp, ?_⟩
        have hcl : es.countP (isPr p) ≤ 8 := by
          by_cases hc : es.countP (isPr p) ≤ 8
          · exact hc
          · exact absurd (cnt8 h p) hc
        show (low es p : Int) < 8
        omega
    · rw [List.pairwise_append]
      refine ⟨h.nd, by simp, fun a ha b hb => ?_⟩
      simp at hb
      subst hb
      rintro ⟨e1, e2⟩
      unfold used at l2
      rw [List.any_eq_false] at l2
      exact l2 a ha (isPd_iff.2 ⟨e1, e2⟩)
  · exact h
where
  cnt8 {es : List Op} (h : Wf es) (p : Int) : es.countP (isPr p) ≤ 8 := by
    have key : ∀ (m : Nat) (l : List Op), Wf l → (∀ o ∈ l, o.p = p → o.d < m) → l.countP (isPr p) ≤ m := by
      intro m
      induction m with
      | zero =>
        intro l hl hm
        rw [Nat.le_zero, List.countP_eq_zero]
        intro o ho e
        have h1 := hm o ho (by simpa [isPr] using e)
        have := (hl.rng o ho).2
        omega
      | succ m ih =>
        intro l hl hm
        have h1 : l.countP (isPr p) ≤ (l.filter (fun o => !isPd p m o)).countP (isPr p) + l.countP (isPd p m) := by
          rw [List.countP_filter]
          clear hl hm ih
          induction l with
          | nil => simp
          | cons o l il =>
            simp only [List.countP_cons]
            have : (if isPr p o = true then 1 else 0) ≤ (if (isPr p o && !isPd p m o) = true then 1 else 0) + (if isPd p m o = true then 1 else 0) := by
              cases isPr p o <;> cases isPd p m o <;> simp
            omega
        have h2 : l.countP (isPd p m) ≤ 1 := by
          clear h1 hm ih
          induction l with
          | nil => simp
          | cons o l il =>
            have := il hl.tail
            rw [List.countP_cons]
            by_cases e : isPd p m o = true
            · rw [if_pos e]
              rw [isPd_iff] at e
              have : l.countP (isPd p m) = 0 := by
                rw [List.countP_eq_zero]
                intro b hb eb
                rw [isPd_iff] at eb
                exact (List.pairwise_cons.1 hl.nd).1 b hb ⟨by omega, by omega⟩
              omega
            · rw [if_neg e]; omega
        have h3 := ih (l.filter (fun o => !isPd p m o)) ⟨fun o ho => hl.rng o (List.mem_filter.1 ho).1, hl.nd.filter _⟩ (by
          intro o ho hp
          have h4 := List.mem_filter.1 ho
          have h5 := hm o h4.1 hp
          have h6 : ¬ o.d = m := by
            intro e
            have := isPd_iff.2 ⟨hp, e⟩
            rw [this] at h4
            simp at h4
          omega)
        omega
    exact key 8 es h fun o ho _ => (h.rng o ho).2.2
theorem getO_open {es : List Op} {n : Nat} {p m k f : Int} (h64 : es.length ≤ 64) (he : roomE es n p = 0) (p' d' : Int) :
    getO (openL es n p m k f) p' d' = if p' = p ∧ d' = low es p then some ⟨p, low es p, m, k, f, 0⟩ else getO es p' d' := by
  have e : openL es n p m k f = es ++ [⟨p, low es p, m, k, f, 0⟩] := by unfold openL; rw [if_pos he]
  have hu := (low_spec p h64).2.1
  rw [getO_used] at hu
  have hn : getO es p (low es p) = none := by
    cases e : getO es p (low es p) with
    | none => rfl
    | some o => rw [e] at hu; cases hu
  rw [e]
  show List.find? _ _ = _
  rw [List.find?_append]
  by_cases c : p' = p ∧ d' = low es p
  · obtain ⟨rfl, rfl⟩ := c
    rw [if_pos ⟨rfl, rfl⟩]
    have : List.find? (isPd p' (low es p')) es = none := hn
    rw [this]
    simp [isPd]
  · rw [if_neg c]
    have : List.find? (isPd p' d') [(⟨p, low es p, m, k, f, 0⟩ : Op)] = none := by
      rw [List.find?_eq_none]
      intro o ho
      simp at ho
      subst ho
      rw [isPd_iff]
      rintro ⟨e1, e2⟩
      exact c ⟨e1.symm, e2.symm⟩
    rw [this]
    show (getO es p' d').or none = _
    simp

/-- A file is told anew under its own descriptor. -/
theorem Wf.set {es : List Op} (h : Wf es) {k : Nat} {o o' : Op} (hk : es[k]? = some o) (hp : o'.p = o.p) (hd : o'.d = o.d) : Wf (es.set k o') := by
  obtain ⟨hl, he⟩ := List.getElem?_eq_some_iff.1 hk
  have key : ∀ i (hi : i < (es.set k o').length), ((es.set k o')[i]).p = (es[i]'(by simpa using hi)).p ∧ ((es.set k o')[i]).d = (es[i]'(by simpa using hi)).d := by
    intro i hi
    rw [List.getElem_set]
    split
    · rename_i e; subst e; rw [he]; exact ⟨hp, hd⟩
    · exact ⟨rfl, rfl⟩
  refine ⟨fun x hx => ?_, List.pairwise_iff_getElem.2 fun i j hi hj hij => ?_⟩
  · obtain ⟨i, hi, rfl⟩ := List.mem_iff_getElem.1 hx
    have := h.rng _ (List.getElem_mem (by simpa using hi : i < es.length))
    rw [(key i hi).1, (key i hi).2]; exact this
  · rw [(key i hi).1, (key i hi).2, (key j hj).1, (key j hj).2]
    exact List.pairwise_iff_getElem.1 h.nd i j (by simpa using hi) (by simpa using hj) hij
theorem getO_set {es : List Op} (h : Wf es) {k : Nat} {o o' : Op} (hk : es[k]? = some o) (hp : o'.p = o.p) (hd : o'.d = o.d) (p' d' : Int) :
    getO (es.set k o') p' d' = if p' = o.p ∧ d' = o.d then some o' else getO es p' d' := by
  have hw := h.set hk hp hd
  have hl := (List.getElem?_eq_some_iff.1 hk).1
  by_cases c : p' = o.p ∧ d' = o.d
  · rw [if_pos c, getO_some hw]
    exact ⟨List.mem_iff_getElem?.2 ⟨k, by simp [hl]⟩, by omega, by omega⟩
  · rw [if_neg c]
    cases e : getO es p' d' with
    | none =>
      rw [getO_none] at e ⊢
      intro x hx
      obtain ⟨i, hi⟩ := List.mem_iff_getElem?.1 hx
      rw [List.getElem?_set] at hi
      split at hi
      · cases hi; rintro ⟨e1, e2⟩; exact c ⟨by omega, by omega⟩
      · exact e x (List.mem_of_getElem? hi)
    | some x =>
      rw [getO_some h] at e
      rw [getO_some hw]
      refine ⟨?_, e.2⟩
      obtain ⟨i, hi⟩ := List.mem_iff_getElem?.1 e.1
      refine List.mem_iff_getElem?.2 ⟨i, ?_⟩
      rw [List.getElem?_set, if_neg ?_]
      · exact hi
      · rintro rfl
        rw [hk] at hi; cases hi
        exact c ⟨by omega, by omega⟩

/-- Close. -/
theorem close_perm {es : List Op} {k : Nat} (hk : k < es.length) : ((es.set k ((es[es.length - 1]?).getD o0)).take (es.length - 1)).Perm (es.eraseIdx k) := by
  obtain ⟨a, x, c, rfl, rfl⟩ : ∃ a x c, es = a ++ x :: c ∧ a.length = k := ⟨es.take k, es[k], es.drop (k + 1), by simp, by simp; omega⟩
  rcases List.eq_nil_or_concat c with rfl | ⟨c', l, rfl⟩
  · rw [List.eraseIdx_append_of_length_le (Nat.le_refl _)]
    simp
  · have e1 : (a ++ x :: (c' ++ [l]))[(a ++ x :: (c' ++ [l])).length - 1]? = some l := by
      rw [show (a ++ x :: (c' ++ [l])) = (a ++ x :: c') ++ [l] by simp]
      simp
    have e1' : (a ++ x :: c'.concat l)[(a ++ x :: c'.concat l).length - 1]? = some l := by rw [List.concat_eq_append]; exact e1
    rw [e1']
    simp only [List.concat_eq_append, Option.getD_some]
    rw [List.set_append_right _ _ (Nat.le_refl _)]
    simp only [Nat.sub_self, List.set_cons_zero]
    rw [show (a ++ x :: (c' ++ [l])).length - 1 = (a ++ l :: c').length by simp, show a ++ l :: (c' ++ [l]) = (a ++ l :: c') ++ [l] by simp, List.take_left']
    · rw [List.eraseIdx_append_of_length_le (Nat.le_refl _)]
      simp only [Nat.sub_self, List.eraseIdx_cons_zero]
      refine List.Perm.append_left a ?_
      exact (List.perm_append_singleton l c').symm
    · rfl
theorem Wf.perm {es fs : List Op} (h : Wf es) (hp : fs.Perm es) : Wf fs :=
  ⟨fun o ho => h.rng o (hp.mem_iff.1 ho), (hp.pairwise_iff (fun hab hba => hab ⟨hba.1.symm, hba.2.symm⟩)).2 h.nd⟩
theorem Wf.erase {es : List Op} (h : Wf es) (k : Nat) : Wf (es.eraseIdx k) :=
  ⟨fun o ho => h.rng o (List.mem_of_mem_eraseIdx ho), h.nd.sublist (List.eraseIdx_sublist es k)⟩
theorem Wf.close {es : List Op} (h : Wf es) (p d : Int) : Wf (closeL es p d) := by
  unfold closeL
  split
  · rename_i e
    exact (h.erase _).perm (close_perm (findE_zero e).2.1)
  · exact h
theorem getO_perm {es fs : List Op} (h : Wf es) (hp : fs.Perm es) (p d : Int) : getO fs p d = getO es p d := by
  cases e : getO es p d with
  | none =>
    rw [getO_none] at e ⊢
    intro o ho
    exact e o (hp.mem_iff.1 ho)
  | some o =>
    rw [getO_some h] at e
    rw [getO_some (h.perm hp)]
    exact ⟨hp.mem_iff.2 e.1, e.2⟩
theorem getO_close {es : List Op} (h : Wf es) {p d : Int} (he : findE es p d = 0) (p' d' : Int) : getO (closeL es p d) p' d' = if p' = p ∧ d' = d then none else getO es p' d' := by
  obtain ⟨-, hi, -, o, ho, hp, hd⟩ := findE_zero he
  have e : closeL es p d = (es.set (fdI es p d) ((es[es.length - 1]?).getD o0)).take (es.length - 1) := by unfold closeL; rw [if_pos he]
  rw [e, getO_perm (h.erase (fdI es p d)) (close_perm hi)]
  generalize fdI es p d = k at *
  by_cases c : p' = p ∧ d' = d
  · rw [if_pos c, getO_none]
    intro x hx
    rw [List.mem_eraseIdx_iff_getElem?] at hx
    obtain ⟨i, hik, hx⟩ := hx
    rintro ⟨e1, e2⟩
    exact hik (h.uniq hx ho (by omega) (by omega))
  · rw [if_neg c]
    cases e2 : getO es p' d' with
    | none =>
      rw [getO_none] at e2 ⊢
      intro x hx
      exact e2 x (List.mem_of_mem_eraseIdx hx)
    | some x =>
      rw [getO_some h] at e2
      rw [getO_some (h.erase k)]
      refine ⟨?_, e2.2⟩
      rw [List.mem_eraseIdx_iff_getElem?]
      obtain ⟨i, hi2⟩ := List.mem_iff_getElem?.1 e2.1
      refine ⟨i, ?_, hi2⟩
      rintro rfl
      rw [ho] at hi2; cases hi2
      exact c ⟨by omega, by omega⟩
theorem Wf.seek {es : List Op} (h : Wf es) (p d s : Int) : Wf (seekL es p d s) := by
  unfold seekL
  split
  · rename_i e
    split
    · exact h
    · obtain ⟨-, -, -, o, ho, hp, hd⟩ := findE_zero e
      have hg : getV es p d = o := by unfold getV; rw [if_pos e, ho]; rfl
      rw [hg]
      exact h.set ho rfl rfl
  · exact h
theorem getO_seek {es : List Op} (h : Wf es) {p d s : Int} (he : findE es p d = 0) (hs : ¬ s < 0) (p' d' : Int) : getO (seekL es p d s) p' d' = if p' = p ∧ d' = d then some { getV es p d with s := s } else getO es p' d' := by
  obtain ⟨-, -, -, o, ho, hp, hd⟩ := findE_zero he
  have hg : getV es p d = o := by unfold getV; rw [if_pos he, ho]; rfl
  unfold seekL
  rw [if_pos he, if_neg hs, hg]
  show getO (es.set (fdI es p d) ⟨o.p, o.d, o.m, o.n, o.f, s⟩) p' d' = if p' = p ∧ d' = d then some ⟨o.p, o.d, o.m, o.n, o.f, s⟩ else getO es p' d'
  rw [getO_set (o' := ⟨o.p, o.d, o.m, o.n, o.f, s⟩) h ho rfl rfl, hp, hd]
theorem close_len {es : List Op} (p d : Int) : (closeL es p d).length ≤ es.length := by
  unfold closeL
  split
  · simp
  · exact Nat.le_refl _

/-- How many there are, told by processes and descriptors. -/
theorem cnt_turn (m i0 : Nat) (c : Bool) (f f' : Nat → Bool) (h0 : i0 < m) (hf : f i0 = false) (hf' : ∀ i, f' i = if i = i0 then c else f i) : (List.range m).countP f' = (List.range m).countP f + if c then 1 else 0 := by
  induction m with
  | zero => omega
  | succ m ih =>
    rw [List.range_succ, List.countP_append, List.countP_append]
    simp only [List.countP_cons, List.countP_nil, Nat.zero_add]
    by_cases e : i0 = m
    · subst e
      have : (List.range i0).countP f' = (List.range i0).countP f := by
        apply List.countP_congr
        intro i hi
        rw [hf' i, if_neg (by have := List.mem_range.1 hi; omega)]
      rw [this, hf' i0, if_pos rfl, hf]
      simp
    · rw [ih (by omega), hf' m, if_neg (show ¬ m = i0 by omega)]
      omega
theorem cnt_all {es : List Op} (h : Wf es) (Q : Op → Bool) : es.countP Q = (List.range 64).countP fun i => (getO es ((i / 8 : Nat) : Int) ((i % 8 : Nat) : Int)).any Q := by
  induction es with
  | nil =>
    symm
    rw [List.countP_nil, List.countP_eq_zero]
    intro i _
    simp [getO]
  | cons x es ih =>
    rw [List.countP_cons, ih h.tail]
    obtain ⟨r1, r2⟩ := h.rng x (by simp)
    symm
    refine cnt_turn 64 (x.p.toNat * 8 + x.d.toNat) (Q x) (fun i => (getO es ((i / 8 : Nat) : Int) ((i % 8 : Nat) : Int)).any Q) _ (by omega) ?_ ?_
    · have e : getO es (((x.p.toNat * 8 + x.d.toNat) / 8 : Nat) : Int) (((x.p.toNat * 8 + x.d.toNat) % 8 : Nat) : Int) = none := by
        rw [getO_none]
        rintro o ho ⟨e1, e2⟩
        exact (List.pairwise_cons.1 h.nd).1 o ho ⟨by omega, by omega⟩
      simp only [e]; rfl
    · intro i
      by_cases e : i = x.p.toNat * 8 + x.d.toNat
      · rw [if_pos e]
        subst e
        have : getO (x :: es) (((x.p.toNat * 8 + x.d.toNat) / 8 : Nat) : Int) (((x.p.toNat * 8 + x.d.toNat) % 8 : Nat) : Int) = some x := by
          unfold getO
          rw [List.find?_cons, isPd_iff.2 ⟨by omega, by omega⟩]
        rw [this]; rfl
      · rw [if_neg e]
        have : isPd ((i / 8 : Nat) : Int) ((i % 8 : Nat) : Int) x = false := by
          rw [← Bool.not_eq_true, isPd_iff]
          rintro ⟨e1, e2⟩
          omega
        unfold getO
        rw [List.find?_cons, this]
theorem cnt_pr {es : List Op} (h : Wf es) (p : Int) : es.countP (isPr p) = (List.range 8).countP fun (k : Nat) => (getO es p (k : Int)).isSome := by
  induction es with
  | nil =>
    symm
    rw [List.countP_nil, List.countP_eq_zero]
    intro i _
    simp [getO]
  | cons x es ih =>
    rw [List.countP_cons, ih h.tail]
    obtain ⟨r1, r2⟩ := h.rng x (by simp)
    by_cases e : x.p = p
    · rw [if_pos (by simp [isPr, e])]
      symm
      refine cnt_turn 8 x.d.toNat true (fun (k : Nat) => (getO es p (k : Int)).isSome) _ (by omega) ?_ ?_
      · have e : getO es p ((x.d.toNat : Nat) : Int) = none := by
          rw [getO_none]
          rintro o ho ⟨e1, e2⟩
          exact (List.pairwise_cons.1 h.nd).1 o ho ⟨by omega, by omega⟩
        simp only [e]; rfl
      · intro i
        by_cases e2 : i = x.d.toNat
        · rw [if_pos e2]
          subst e2
          unfold getO
          rw [List.find?_cons, isPd_iff.2 ⟨e, by omega⟩]; rfl
        · rw [if_neg e2]
          have : isPd p (i : Int) x = false := by
            rw [← Bool.not_eq_true, isPd_iff]
            rintro ⟨e1, e2⟩
            omega
          unfold getO
          rw [List.find?_cons, this]
    · rw [if_neg (by simp [isPr, e])]
      have : (fun k : Nat => (getO (x :: es) p (k : Int)).isSome) = fun k : Nat => (getO es p (k : Int)).isSome := by
        funext k
        have : isPd p (k : Int) x = false := by
          rw [← Bool.not_eq_true, isPd_iff]
          rintro ⟨e1, e2⟩
          exact e e1
        unfold getO
        rw [List.find?_cons, this]
      rw [this]; rfl
theorem len_all {es : List Op} (h : Wf es) : es.length = (List.range 64).countP fun i => (getO es ((i / 8 : Nat) : Int) ((i % 8 : Nat) : Int)).isSome := by
  have h1 := cnt_all h (fun _ => true)
  rw [show es.countP (fun _ => true) = es.length by simp] at h1
  rw [h1]
  apply List.countP_congr
  intro i _
  cases getO es ((i / 8 : Nat) : Int) ((i % 8 : Nat) : Int) <;> simp
end Go.Proofs.Ytocaonbmijmbmaa
