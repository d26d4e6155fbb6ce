/-
  Both tables side by side, as plain data.
-/
import Derived.Test.YthmpplcaomgdoaaMRefC
import Derived.Test.YthmpplcaomgdoaaMCntA
namespace Go.Proofs.Ythmpplcaomgdoaa.Mt
open Go.RowKit

/-- The document's mounts are those that are there, by their numbers. -/
structure RT (t : T) (rs : List Rm) : Prop where
  len : (rs.length : Int) = t.md + 1
  zero : rs[0]? = some ⟨0, 0, t.rt, true⟩
  live : ∀ p ∈ t.es, rs[p.n.toNat]? = some ⟨p.am, p.an, p.top, true⟩
  only : ∀ (i : Nat) (q : Rm), 1 ≤ i → rs[i]? = some q → q.lv = true → ∃ p ∈ t.es, p.n = (i : Int)
section
variable {B : Int} {t : T} {rs : List Rm}
theorem RT.new (r : Int) : RT ⟨r, 0, []⟩ [⟨0, 0, r, true⟩] := by
  refine ⟨by simp, rfl, by simp, fun i q h1 h2 => ?_⟩
  have := (List.getElem?_eq_some_iff.1 h2).1
  simp at this
  omega
theorem RT.is (h : RT t rs) (hw : Wf B t) (m : Int) : rIs rs m = rootIs t.es m := by
  unfold rootIs
  by_cases h0 : m = 0
  · subst h0
    simp [rIs, h.zero]
  · rw [if_neg h0]
    cases ha : any t.es (isN m) with
    | true =>
      obtain ⟨p, hp, he⟩ := any_iff.1 ha
      simp [isN] at he
      have h1 := h.live p hp
      have h2 := hw.num p hp
      rw [he] at h1
      simp [rIs, h1]
      omega
    | false =>
      unfold rIs
      by_cases hm : 0 ≤ m
      · cases hq : rs[m.toNat]? with
        | none => simp
        | some q =>
          cases hl : q.lv with
          | false => simp [hl]
          | true =>
            obtain ⟨p, hp, he⟩ := h.only m.toNat q (by omega) hq hl
            have := any_false.1 ha p hp
            simp [isN] at this
            omega
      · simp [hm]
theorem RT.over (h : RT t rs) (hw : Wf B t) {m n r : Int} (ho : Ov rs (lvAt m n) r) : r = if any t.es (isAt m n) then (fst t.es (isAt m n)).n else -1 := by
  cases ha : any t.es (isAt m n) with
  | true =>
    obtain ⟨f1, f2⟩ := fst_mem ha
    simp only [isAt, decide_eq_true_eq] at f2
    have hl := h.live _ f1
    have hn := hw.num _ f1
    simp only [if_true]
    rcases ho with ⟨rfl, hno⟩ | ⟨k, q, rfl, hk, hq, hP⟩
    · have := hno _ _ (by omega) hl
      simp [lvAt, f2.1, f2.2] at this
    · simp only [lvAt, Bool.and_eq_true, decide_eq_true_eq] at hP
      obtain ⟨p, hp, he⟩ := h.only k q hk hq hP.1
      have h2 := h.live p hp
      rw [he, Int.toNat_natCast, hq] at h2
      cases h2
      simp only [] at hP
      have : p = fst t.es (isAt m n) := by
        refine Classical.byContradiction fun hne => ?_
        have hpw := hw.one
        rcases List.mem_iff_getElem.1 hp with ⟨i, hi, ei⟩
        rcases List.mem_iff_getElem.1 f1 with ⟨j, hj, ej⟩
        rcases Nat.lt_trichotomy i j with hij | hij | hij
        · have := List.pairwise_iff_getElem.1 hpw i j hi hj hij
          rw [ei, ej] at this
          exact this ⟨hP.2.1.trans f2.1.symm, hP.2.2.trans f2.2.symm⟩
        · subst hij
          exact hne (ei.symm.trans ej)
        · have := List.pairwise_iff_getElem.1 hpw j i hj hi hij
          rw [ei, ej] at this
          exact this ⟨f2.1.trans hP.2.1.symm, f2.2.trans hP.2.2.symm⟩
      rw [← this]
      exact he.symm
  | false =>
    simp only [Bool.false_eq_true, if_false]
    rcases ho with ⟨rfl, hno⟩ | ⟨k, q, rfl, hk, hq, hP⟩
    · rfl
    · simp only [lvAt, Bool.and_eq_true, decide_eq_true_eq] at hP
      obtain ⟨p, hp, he⟩ := h.only k q hk hq hP.1
      have h2 := h.live p hp
      rw [he, Int.toNat_natCast, hq] at h2
      cases h2
      have := any_false.1 ha p hp
      simp only [isAt, decide_eq_false_iff_not] at this
      exact absurd hP.2 this
theorem RT.cov (h : RT t rs) (hw : Wf B t) {n r : Int} (ho : Ov rs (lvNd n) r) : decide (0 ≤ r) = any t.es (isNd n) := by
  cases ha : any t.es (isNd n) with
  | true =>
    obtain ⟨p, hp, hP⟩ := any_iff.1 ha
    simp [isNd] at hP
    rcases ho with ⟨rfl, hno⟩ | ⟨k, q, rfl, hk, hq, _⟩
    · have := hno _ _ (by have := hw.num p hp; omega) (h.live p hp)
      simp [lvNd, hP] at this
    · simp
  | false =>
    rcases ho with ⟨rfl, hno⟩ | ⟨k, q, rfl, hk, hq, hP⟩
    · rfl
    · simp only [lvNd, Bool.and_eq_true, decide_eq_true_eq] at hP
      obtain ⟨p, hp, he⟩ := h.only k q hk hq hP.1
      have h2 := h.live p hp
      rw [he, Int.toNat_natCast, hq] at h2
      cases h2
      have := any_false.1 ha p hp
      simp [isNd] at this
      exact absurd hP.2 this
theorem RT.root (h : RT t rs) (hw : Wf B t) (m : Int) : (if rIs rs m then rNd rs m else 0) = rootTop t.rt t.es m := by
  rw [h.is hw]
  unfold rootIs rootTop
  by_cases h0 : m = 0
  · subst h0
    simp [rNd, h.zero]
  · rw [if_neg h0, if_neg h0]
    cases ha : any t.es (isN m) with
    | true =>
      obtain ⟨f1, f2⟩ := fst_mem ha
      simp only [isN, decide_eq_true_eq] at f2
      have hl := h.live _ f1
      rw [f2] at hl
      simp [rNd, hl]
    | false =>
      unfold any at ha
      cases hf : t.es.find? (isN m) with
      | none => simp [fst, hf]
      | some p => rw [hf] at ha; simp at ha
/-- Two lists of numbers that rise and have the same members are one. -/
theorem rise_ext : ∀ {l m : List Int}, l.Pairwise (· < ·) → m.Pairwise (· < ·) → (∀ e, e ∈ l ↔ e ∈ m) → l = m
  | [], [], _, _, _ => rfl
  | [], b :: m, _, _, h => by have := (h b).2 (by simp); simp at this
  | a :: l, [], _, _, h => by have := (h a).1 (by simp); simp at this
  | a :: l, b :: m, hl, hm, h => by
    obtain ⟨l1, l2⟩ := List.pairwise_cons.1 hl
    obtain ⟨m1, m2⟩ := List.pairwise_cons.1 hm
    have hab : a = b := by
      rcases List.mem_cons.1 ((h a).1 (by simp)) with e | ha
      · exact e
      · rcases List.mem_cons.1 ((h b).2 (by simp)) with e | hb
        · exact e.symm
        · have := m1 a ha; have := l1 b hb; omega
    subst hab
    congr 1
    refine rise_ext l2 m2 fun e => ⟨fun he => ?_, fun he => ?_⟩
    · rcases List.mem_cons.1 ((h e).1 (List.mem_cons_of_mem _ he)) with e1 | e1
      · have := l1 e he; omega
      · exact e1
    · rcases List.mem_cons.1 ((h e).2 (List.mem_cons_of_mem _ he)) with e1 | e1
      · have := m1 e he; omega
      · exact e1
theorem nums_rise (rs : List Rm) (P : Rm → Bool) (lo k : Nat) : (nums rs P lo k).Pairwise (· < ·) := by
  rw [nums]
  refine List.pairwise_map.2 ((List.pairwise_lt_range.filter _).imp fun h => ?_)
  omega
theorem nums_mem {rs : List Rm} {P : Rm → Bool} {lo : Nat} {x : Int} : x ∈ nums rs P lo rs.length ↔ ∃ (i : Nat) (q : Rm), x = (i : Int) ∧ lo ≤ i ∧ rs[i]? = some q ∧ P q = true := by
  rw [nums, List.mem_map]
  constructor
  · rintro ⟨i, hi, rfl⟩
    rw [List.mem_filter] at hi
    obtain ⟨h1, h2⟩ := hi
    simp only [Bool.and_eq_true, decide_eq_true_eq] at h2
    cases hq : rs[i]? with
    | none => rw [hq] at h2; simp at h2
    | some q => rw [hq] at h2; exact ⟨i, q, rfl, h2.1, hq, h2.2⟩
  · rintro ⟨i, q, rfl, h1, h2, h3⟩
    refine ⟨i, List.mem_filter.2 ⟨List.mem_range.2 (List.getElem?_eq_some_iff.1 h2).1, ?_⟩, rfl⟩
    simp [h1, h2, h3]
theorem RT.list (h : RT t rs) (hw : Wf B t) : nums rs lvAll 0 rs.length = lst t.es := by
  refine rise_ext (nums_rise _ _ _ _) ?_ fun x => ?_
  · rw [lst]
    refine List.pairwise_cons.2 ⟨fun a ha => ?_, List.pairwise_map.2 hw.rise⟩
    obtain ⟨p, hp, rfl⟩ := List.mem_map.1 ha
    exact hw.num p hp
  · rw [nums_mem, lst, List.mem_cons, List.mem_map]
    constructor
    · rintro ⟨i, q, rfl, _, hq, hl⟩
      by_cases e : i = 0
      · subst e; exact .inl rfl
      · obtain ⟨p, hp, he⟩ := h.only i q (by omega) hq hl
        exact .inr ⟨p, hp, he⟩
    · rintro (rfl | ⟨p, hp, rfl⟩)
      · exact ⟨0, _, rfl, Nat.le_refl _, h.zero, rfl⟩
      · exact ⟨p.n.toNat, _, by have := hw.num p hp; omega, Nat.zero_le _, h.live p hp, rfl⟩
theorem RT.above (h : RT t rs) (hw : Wf B t) (m : Int) : nums rs (lvIn m) 1 rs.length = abv t.es m := by
  refine rise_ext (nums_rise _ _ _ _) ?_ fun x => ?_
  · rw [abv]
    exact List.pairwise_map.2 (hw.rise.filter _)
  · rw [nums_mem, abv, List.mem_map]
    constructor
    · rintro ⟨i, q, rfl, h1, hq, hP⟩
      simp only [lvIn, Bool.and_eq_true, decide_eq_true_eq] at hP
      obtain ⟨p, hp, he⟩ := h.only i q h1 hq hP.1
      have h2 := h.live p hp
      rw [he, Int.toNat_natCast, hq] at h2
      cases h2
      exact ⟨p, List.mem_filter.2 ⟨hp, by simpa [isM] using hP.2⟩, he⟩
    · rintro ⟨p, hp, rfl⟩
      obtain ⟨hp, hm⟩ := List.mem_filter.1 hp
      have hn := hw.num p hp
      exact ⟨p.n.toNat, _, by omega, by omega, h.live p hp, by simpa [lvIn, isM] using hm⟩
theorem RT.bind (h : RT t rs) (hw : Wf B t) {am an : Int} (nd : Int) (hz : bindE t.es am an = 0) : RT (t.bind am an nd) (rs ++ [⟨am, an, nd, true⟩]) := by
  have hp := hw.pos
  have hl := h.len
  rw [T.bind, if_pos hz]
  refine ⟨by simp; omega, ?_, fun p hp' => ?_, fun i q h1 h2 h3 => ?_⟩
  · rw [List.getElem?_append_left (by omega)]; exact h.zero
  · rcases List.mem_append.1 hp' with hp' | hp'
    · have := (hw.eld p hp').2
      have := hw.num p hp'
      rw [List.getElem?_append_left (by omega)]
      exact h.live p hp'
    · simp at hp'; subst hp'
      simp only []
      rw [List.getElem?_append_right (by omega), show (t.md + 1).toNat - rs.length = 0 by omega]
      rfl
  · by_cases e : i < rs.length
    · rw [List.getElem?_append_left e] at h2
      obtain ⟨p, q1, q2⟩ := h.only i q h1 h2 h3
      exact ⟨p, List.mem_append_left _ q1, q2⟩
    · have := (List.getElem?_eq_some_iff.1 h2).1
      simp at this
      exact ⟨⟨t.md + 1, nd, am, an⟩, by simp, by simp only []; omega⟩
theorem RT.unb (h : RT t rs) (hw : Wf B t) {m : Int} (hz : unbE t.es m = 0) : ∃ (j : Nat) (p : Rm), m = (j : Int) ∧ rs[j]? = some p ∧ RT (t.unbind m) (rs.set j { p with lv := false }) := by
  obtain ⟨h1, h2⟩ := unbE_zero hz
  obtain ⟨x, hx, he⟩ := any_iff.1 h1
  simp [isN] at he
  have hn := hw.num x hx
  have hl := h.live x hx
  rw [he] at hl
  refine ⟨m.toNat, _, by omega, hl, ?_⟩
  rw [T.unbind, if_pos hz]
  have hj : m.toNat < rs.length := (List.getElem?_eq_some_iff.1 hl).1
  refine ⟨by simpa using h.len, ?_, fun p hp => ?_, fun i q q1 q2 q3 => ?_⟩
  · rw [List.getElem?_set_ne (by omega)]; exact h.zero
  · obtain ⟨hp, hne⟩ := List.mem_filter.1 hp
    simp [isN] at hne
    have := hw.num p hp
    rw [List.getElem?_set_ne (by omega)]
    exact h.live p hp
  · by_cases e : i = m.toNat
    · subst e
      rw [List.getElem?_set_self hj] at q2
      cases q2
      simp at q3
    · rw [List.getElem?_set_ne (fun e' => e e'.symm)] at q2
      obtain ⟨p, r1, r2⟩ := h.only i q q1 q2 q3
      refine ⟨p, List.mem_filter.2 ⟨r1, ?_⟩, r2⟩
      simp [isN]
      omega
end
end Go.Proofs.Ythmpplcaomgdoaa.Mt
