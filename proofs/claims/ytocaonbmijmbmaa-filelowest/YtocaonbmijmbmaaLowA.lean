/-
  FileLowest: what lies while the calls are asked: the table, and which descriptors the law holds for open.
-/
import Derived.Test.YtocaonbmijmbmaaWf
import Derived.Test.YtocaonbmijmbmaaKnown
import Derived.Test.YtocaonbmijmbmaaIn
namespace Go.Proofs.Ytocaonbmijmbmaa
open Go.RowKit Go.Shelf

/-- 64 bools in a block. -/
def bc (G : Nat → Bool) : Array Value := ((List.range 64).map fun i => Value.bool (G i)).toArray
def upb (f : Nat → Bool) (i : Nat) (x : Bool) (j : Nat) : Bool := if j = i then x else f j
theorem bc_at (G : Nat → Bool) (i : Nat) (h : i < 64) : (bc G)[i]? = some (.bool (G i)) := by
  unfold bc; simp [h]
theorem bc_set (G : Nat → Bool) (i : Nat) (b : Bool) : (bc G).setIfInBounds i (.bool b) = bc (upb G i b) := by
  unfold bc
  rw [List.setIfInBounds_toArray]
  congr 1
  apply List.ext_getElem?
  intro j
  rw [List.getElem?_set, List.getElem?_map, List.getElem?_map]
  by_cases e : i = j
  · subst e
    by_cases h : i < 64
    · simp [h, upb]
    · simp [h]
  · rw [if_neg e]
    by_cases h : j < 64
    · simp [h, upb, Ne.symm e]
    · simp [h]
theorem zero56 (w : World) : (zeroValue 56).run Try.prog w = .ok (.agg (bc fun _ => false)) w :=
  (zero_of_info (P := Try.prog) (t := 56) (v := .agg (bc fun _ => false)) (n := 64) (by kernel_rfl)).1 w

/-- The table in block b, what the law has told itself in block g. -/
structure LW (B b g : Nat) (w W : World) (es : List Op) (G : Nat → Bool) : Prop where
  tb : Tb W b 64 es
  hg : W.heap[g]? = some (.cells (bc G) 56)
  wf : Wf es
  be : Below B w W
  lo : B ≤ b ∧ B ≤ g
  is : ∀ p k : Nat, p < 8 → k < 8 → G (p * 8 + k) = (getO es (p : Int) (k : Int)).isSome
section
variable {B b g : Nat} {w W W' : World} {es es' : List Op} {G : Nat → Bool}
theorem LW.ne (h : LW B b g w W es G) : b ≠ g := by
  rintro rfl
  obtain ⟨r, hr, -⟩ := h.tb.hb
  rw [h.hg] at hr
  simp at hr
theorem LW.sz (h : LW B b g w W es G) : B ≤ W.heap.size := by have := h.tb.lt; have := h.lo; omega
theorem LW.below (h : LW B b g w W es G) (f : Below W.heap.size W W') : LW B b g w W' es G :=
  ⟨h.tb.below f, (f.block g (lt_of_heap h.hg)).trans h.hg, h.wf, h.be.trans (f.mono h.sz), h.lo, h.is⟩
theorem LW.drew (h : LW B b g w W es G) : LW B b g w W.drew es G := h.below (below_d (Below.refl _ _))
theorem LW.bb (h : LW B b g w W es G) {p k : Nat} (hp : p < 8) (hk : k < 8) : W.cell? ⟨g, p * 8 + k, none⟩ = some (.bool (getO es (p : Int) (k : Int)).isSome) := by
  rw [cell_of h.hg, bc_at G _ (by omega), h.is p k hp hk]
/-- Between a call and what the law tells itself of it. -/
structure LM (B b g : Nat) (w W : World) (es es' : List Op) (G : Nat → Bool) : Prop where
  tb : Tb W b 64 es'
  hg : W.heap[g]? = some (.cells (bc G) 56)
  wf : Wf es'
  be : Below B w W
  lo : B ≤ b ∧ B ≤ g
  is : ∀ p k : Nat, p < 8 → k < 8 → G (p * 8 + k) = (getO es (p : Int) (k : Int)).isSome
theorem LW.call (h : LW B b g w W es G) (t : Tb W' b 64 es') (f : Fr b W W') (wf : Wf es') : LM B b g w W' es es' G :=
  ⟨t, (f.block g (lt_of_heap h.hg) (Ne.symm h.ne)).trans h.hg, wf, h.be.trans (f.below h.lo.1 h.sz), h.lo, h.is⟩
theorem LM.ne (h : LM B b g w W es es' G) : b ≠ g := by
  rintro rfl
  obtain ⟨r, hr, -⟩ := h.tb.hb
  rw [h.hg] at hr
  simp at hr
theorem LM.below (h : LM B b g w W es es' G) (f : Below W.heap.size W W') : LM B b g w W' es es' G :=
  ⟨h.tb.below f, (f.block g (lt_of_heap h.hg)).trans h.hg, h.wf, h.be.trans (f.mono (by have := h.tb.lt; have := h.lo; omega)), h.lo, h.is⟩
theorem LM.bb (h : LM B b g w W es es' G) {p k : Nat} (hp : p < 8) (hk : k < 8) : W.cell? ⟨g, p * 8 + k, none⟩ = some (.bool (getO es (p : Int) (k : Int)).isSome) := by
  rw [cell_of h.hg, bc_at G _ (by omega), h.is p k hp hk]
theorem LM.same (h : LM B b g w W es es' G) (e : es' = es) : LW B b g w W es' G := by
  subst e; exact ⟨h.tb, h.hg, h.wf, h.be, h.lo, h.is⟩
theorem LM.put (h : LM B b g w W es es' G) {p k : Nat} (x : Bool) (hg : ∀ p' d' : Int, (getO es' p' d').isSome = if p' = p ∧ d' = k then x else (getO es p' d').isSome) (hk : k < 8) :
    ∃ X, W.setCell ⟨g, p * 8 + k, none⟩ (.bool x) = X ∧ W.frozen? ⟨g, p * 8 + k, none⟩ = false ∧ LW B b g w X es' (upb G (p * 8 + k) x) := by
  refine ⟨_, rfl, frozen_of h.hg _, ?_, ?_, h.wf, h.be.setCell (p := ⟨g, p * 8 + k, none⟩) h.lo.2 _, h.lo, ?_⟩
  · exact h.tb.of (Below.heap_setCell _ _ _ _ h.ne)
  · rw [heap_set h.hg, bc_set]
  · intro q j hq hj
    unfold upb
    rw [hg]
    by_cases e : q = p ∧ j = k
    · rw [if_pos (by omega), if_pos (by omega)]
    · rw [if_neg (by omega), if_neg (by omega)]
      exact h.is q j hq hj
end
theorem close_none {es : List Op} {p d : Int} (h : ¬ findE es p d = 0) : closeL es p d = es := by unfold closeL; rw [if_neg h]
theorem open_none {es : List Op} {n : Nat} {p m k f : Int} (h : ¬ roomE es n p = 0) : openL es n p m k f = es := by unfold openL; rw [if_neg h]
/-- The table has room for all processes: only TooMany is told. -/
theorem len_le {es : List Op} (h : Wf es) {p : Int} (hp : 0 ≤ p ∧ p < 8) (h8 : es.countP (isPr p) < 8) : es.length < 64 := by
  have key : ∀ (m : Nat) (l : List Op), Wf l → (∀ o ∈ l, o.p < m) → l.length ≤ 8 * m := by
    intro m
    induction m with
    | zero =>
      intro l hl hm
      cases l with
      | nil => simp
      | cons o l => have := hm o (by simp); have := (hl.rng o (by simp)).1; omega
    | succ m ih =>
      intro l hl hm
      have h1 : l.length = (l.filter (fun o => !isPr m o)).length + l.countP (isPr m) := by
        rw [List.countP_eq_length_filter]
        clear hl hm ih
        induction l with
        | nil => simp
        | cons o l il => cases e : isPr m o <;> simp [e] <;> omega
      have h2 := @Wf.open.cnt8 [] l hl m
      have h3 := ih (l.filter (fun o => !isPr m o)) ⟨fun o ho => hl.rng o (List.mem_filter.1 ho).1, hl.nd.filter _⟩ (by
        intro o ho
        have h4 := List.mem_filter.1 ho
        have h5 := hm o h4.1
        have h6 : ¬ o.p = m := by
          intro e
          rw [show isPr m o = true by simp [isPr, e]] at h4
          simp at h4
        omega)
      omega
  -- the other processes have at most 56
  have h1 : es.length = (es.filter (fun o => !isPr p o)).length + es.countP (isPr p) := by
    rw [List.countP_eq_length_filter]
    clear h h8 key
    induction es with
    | nil => simp
    | cons o l il => cases e : isPr p o <;> simp [e] <;> omega
  have h2 : (es.filter (fun o => !isPr p o)).length ≤ 56 := by
    have hw : Wf ((es.filter (fun o => !isPr p o)).map fun o => { o with p := if o.p < p then o.p else o.p - 1 }) := by
      refine ⟨fun o ho => ?_, ?_⟩
      · obtain ⟨a, ha, rfl⟩ := List.mem_map.1 ho
        have h4 := List.mem_filter.1 ha
        have h5 := h.rng a h4.1
        have h6 : ¬ a.p = p := by intro e; rw [show isPr p a = true by simp [isPr, e]] at h4; simp at h4
        refine ⟨?_, h5.2⟩
        show 0 ≤ (if a.p < p then a.p else a.p - 1) ∧ (if a.p < p then a.p else a.p - 1) < 8
        split <;> omega
      · rw [List.pairwise_map]
        have := (h.nd.filter (fun o => !isPr p o))
        refine List.Pairwise.imp_of_mem (fun {a b} ha hb hab => ?_) this
        have ha' := List.mem_filter.1 ha
        have hb' := List.mem_filter.1 hb
        have a6 : ¬ a.p = p := by intro e; rw [show isPr p a = true by simp [isPr, e]] at ha'; simp at ha'
        have b6 : ¬ b.p = p := by intro e; rw [show isPr p b = true by simp [isPr, e]] at hb'; simp at hb'
        rintro ⟨e1, e2⟩
        refine hab ⟨?_, e2⟩
        have e1' : (if a.p < p then a.p else a.p - 1) = (if b.p < p then b.p else b.p - 1) := e1
        split at e1' <;> split at e1' <;> omega
    have := key 7 _ hw (by
      intro o ho
      obtain ⟨a, ha, rfl⟩ := List.mem_map.1 ho
      have h4 := List.mem_filter.1 ha
      have h5 := h.rng a h4.1
      have h6 : ¬ a.p = p := by intro e; rw [show isPr p a = true by simp [isPr, e]] at h4; simp at h4
      show (if a.p < p then a.p else a.p - 1) < ((7 : Nat) : Int)
      split <;> omega)
    simpa using this
  omega
/-- What Open answers where all may be open: 0, or TooMany, just if no descriptor is left. -/
theorem room_full {es : List Op} (h : Wf es) {p : Nat} (hp : p < 8) : (roomE es 64 (p : Int) = 0 ∧ low es (p : Int) < 8) ∨ (roomE es 64 (p : Int) = 41 ∧ ∀ k : Nat, k < 8 → (getO es (p : Int) (k : Int)).isSome = true) := by
  have h8 := @Wf.open.cnt8 [] es h (p : Int)
  have hP : isP (p : Int) = true := isP_iff.2 (by omega)
  by_cases e : es.countP (isPr (p : Int)) = 8
  · refine .inr ⟨by unfold roomE; rw [if_pos hP, if_pos e], fun k hk => ?_⟩
    rw [cnt_pr h] at e
    have := List.countP_eq_length.1 (e.trans (by simp : 8 = (List.range 8).length)) k (List.mem_range.2 hk)
    simpa using this
  · have hlt := len_le h (p := (p : Int)) (by omega) (by omega)
    refine .inl ⟨by unfold roomE; rw [if_pos hP, if_neg e, if_neg (by omega)], ?_⟩
    have := (low_spec (es := es) (p : Int) (by omega)).2.2
    omega
end Go.Proofs.Ytocaonbmijmbmaa
