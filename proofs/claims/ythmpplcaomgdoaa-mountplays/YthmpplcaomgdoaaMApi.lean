/-
  A table as plain data, what holds of every one, and its calls with named answers.
-/
import Derived.Test.YthmpplcaomgdoaaMUnb
import Derived.Test.YthmpplcaomgdoaaMDown
namespace Go.Proofs.Ythmpplcaomgdoaa.Mt
open Go.RowKit

/-- A table: mount 0's top, how many were bound, those that are there. -/
structure T where
  rt : Int
  md : Int
  es : Ents
/-- What holds of every table; B: how many calls were made, at most. -/
structure Wf (B : Int) (t : T) : Prop where
  rise : Rise t.es
  eld : Eld t.md t.es
  le : t.es.length ≤ 7
  pos : 0 ≤ t.md ∧ t.md ≤ B
  num : ∀ p ∈ t.es, 0 < p.n
  up : ∀ p ∈ t.es, rootIs t.es p.am = true
  one : t.es.Pairwise fun p q => ¬ (p.am = q.am ∧ p.an = q.an)
def T.bind (t : T) (am an nd : Int) : T := if bindE t.es am an = 0 then ⟨t.rt, t.md + 1, t.es ++ [⟨t.md + 1, nd, am, an⟩]⟩ else t
def T.bindN (t : T) (am an : Int) : Int := if bindE t.es am an = 0 then t.md + 1 else 0
def T.unbind (t : T) (m : Int) : T := if unbE t.es m = 0 then ⟨t.rt, t.md, unb t.es m⟩ else t
theorem Wf.new (r : Int) : Wf 0 ⟨r, 0, []⟩ := by
  refine ⟨?_, ?_, ?_, ?_, ?_, ?_, ?_⟩ <;> simp [Rise, Eld]
theorem Wf.mono {B B' : Int} {t : T} (h : Wf B t) (hB : B ≤ B') : Wf B' t := ⟨h.rise, h.eld, h.le, ⟨h.pos.1, by have := h.pos.2; omega⟩, h.num, h.up, h.one⟩
theorem any_append {es fs : Ents} {P : Ld → Bool} : any (es ++ fs) P = (any es P || any fs P) := by
  simp [any, List.find?_append]
theorem rootIs_append {es fs : Ents} {m : Int} (h : rootIs es m = true) : rootIs (es ++ fs) m = true := by
  unfold rootIs at *
  split at h
  · rename_i e
    rw [if_pos e]
  · rename_i e
    rw [if_neg e, any_append, h]; rfl
theorem bindE_zero {es : Ents} {am an : Int} (h : bindE es am an = 0) : rootIs es am = true ∧ any es (isAt am an) = false ∧ es.length < 7 := by
  unfold bindE at h
  cases h1 : rootIs es am with
  | false => simp [h1] at h
  | true =>
    cases h2 : any es (isAt am an) with
    | true => simp [h1, h2] at h
    | false =>
      simp [h1, h2] at h
      exact ⟨rfl, rfl, by omega⟩
theorem root_le {B : Int} {t : T} (h : Wf B t) {m : Int} (hr : rootIs t.es m = true) : m ≤ t.md := by
  unfold rootIs at hr
  split at hr
  · have := h.pos; omega
  · obtain ⟨p, hp, he⟩ := any_iff.1 hr
    simp [isN] at he
    have := (h.eld p hp).2
    omega
theorem Wf.bind {B : Int} {t : T} (h : Wf B t) (am an nd : Int) : Wf (B + 1) (t.bind am an nd) := by
  unfold T.bind
  split
  · rename_i hz
    obtain ⟨h1, h2, h3⟩ := bindE_zero hz
    have hle := root_le h h1
    have hp := h.pos
    refine ⟨?_, ?_, ?_, ?_, ?_, ?_, ?_⟩
    · refine List.pairwise_append.2 ⟨h.rise, by simp, fun p hp' q hq => ?_⟩
      simp at hq; subst hq
      have := (h.eld p hp').2
      simp; omega
    · intro p hp'
      rcases List.mem_append.1 hp' with hp' | hp'
      · have := h.eld p hp'
        simp; omega
      · simp at hp'; subst hp'
        simp; omega
    · simp; omega
    · simp; omega
    · intro p hp'
      rcases List.mem_append.1 hp' with hp' | hp'
      · exact h.num p hp'
      · simp at hp'; subst hp'; simp; omega
    · intro p hp'
      rcases List.mem_append.1 hp' with hp' | hp'
      · exact rootIs_append (h.up p hp')
      · simp at hp'; subst hp'; exact rootIs_append h1
    · refine List.pairwise_append.2 ⟨h.one, by simp, fun p hp' q hq => ?_⟩
      simp at hq; subst hq
      have := any_false.1 h2 p hp'
      simpa [isAt] using this
  · exact h.mono (by omega)
theorem unbE_zero {es : Ents} {m : Int} (h : unbE es m = 0) : any es (isN m) = true ∧ any es (isM m) = false := by
  unfold unbE at h
  cases h1 : any es (isN m) with
  | false => simp [h1] at h
  | true =>
    cases h2 : any es (isM m) with
    | true => simp [h1, h2] at h
    | false => exact ⟨rfl, rfl⟩
theorem Wf.unbind {B : Int} {t : T} (h : Wf B t) (m : Int) : Wf B (t.unbind m) := by
  unfold T.unbind
  split
  · rename_i hz
    obtain ⟨h1, h2⟩ := unbE_zero hz
    have hsub : (unb t.es m).Sublist t.es := List.filter_sublist
    refine ⟨h.rise.sublist hsub, fun p hp => h.eld p (hsub.subset hp), ?_, h.pos, fun p hp => h.num p (hsub.subset hp), fun p hp => ?_, h.one.sublist hsub⟩
    · have := hsub.length_le; have := h.le; simp; omega
    · have hp' := hsub.subset hp
      have hu := h.up p hp'
      have hne : ¬ p.am = m := by
        have := any_false.1 h2 p hp'
        simpa [isM] using this
      unfold rootIs at hu ⊢
      split
      · rfl
      · rename_i h0
        rw [if_neg h0] at hu
        obtain ⟨q, hq, he⟩ := any_iff.1 hu
        refine any_iff.2 ⟨q, List.mem_filter.2 ⟨hq, ?_⟩, he⟩
        simp [isN] at he ⊢
        omega
  · exact h
/-- A table in its blocks, and well formed. -/
structure Tq (B : Int) (base : Nat) (W : World) (b : Nat) (t : T) : Prop where
  ls : Ls base W b t.rt t.md t.es
  wf : Wf B t
theorem Tq.below {B : Int} {base : Nat} {W W' : World} {b : Nat} {t : T} (h : Tq B base W b t) (g : Below W.heap.size W W') : Tq B base W' b t := ⟨h.ls.below g, h.wf⟩
theorem Tq.fm {B : Int} {base : Nat} {W W' : World} {b : Nat} {t : T} (h : Tq B base W b t) (hk : ∀ (k : Nat) (cur : Array Value) (ty : TypeId), W.heap[k]? = some (.cells cur ty (0, 0)) → (k = b ∨ ty = 59) → W'.heap[k]? = W.heap[k]?) : Tq B base W' b t := ⟨h.ls.keep hk, h.wf⟩
theorem new_Q (r : Int) (w : World) : Calls Try.prog 8 #[I r] w fun e w' => e = .returned (.pointer (some ⟨w.heap.size, 0, none⟩)) ∧ Tq 0 w.heap.size w' w.heap.size ⟨r, 0, []⟩ ∧ Below w.heap.size w w' :=
  (new_any r w).mono fun _ _ ⟨h1, h2, h3⟩ => ⟨h1, ⟨h2, Wf.new r⟩, h3⟩
section
variable {B : Int} {base : Nat} {w : World} {b : Nat} {t : T}
theorem bind_Q (h : Tq B base w b t) (hB : B < 1000000) (am an nd : Int) :
    Calls Try.prog 10 #[.pointer (some ⟨b, 0, none⟩), pv am an, I nd] w fun e w' => e = .returned (.tuple #[I (t.bindN am an), I (bindE t.es am an)]) ∧ Tq (B + 1) base w' b (t.bind am an nd) ∧ Fm base b w w' := by
  have hw := h.wf.bind am an nd
  have hp := h.wf.pos
  have hl := h.wf.le
  unfold T.bind T.bindN at *
  by_cases hz : bindE t.es am an = 0
  · rw [if_pos hz] at hw ⊢
    rw [if_pos hz, hz]
    exact (bind_yes base b t.rt t.md am an nd t.es w h.ls (by omega) (by omega) hz).mono fun _ _ ⟨h1, h2, h3⟩ => ⟨h1, ⟨h2, hw⟩, h3⟩
  · rw [if_neg hz] at hw ⊢
    rw [if_neg hz]
    exact (bind_no base b t.rt t.md am an nd _ t.es w h.ls (by omega) rfl hz).mono fun _ _ ⟨h1, h2⟩ => ⟨h1, ⟨h.ls.below h2, hw⟩, Fm.of_below h2 h.ls.base_le⟩
theorem unbind_Q (h : Tq B base w b t) (m : Int) :
    Calls Try.prog 9 #[.pointer (some ⟨b, 0, none⟩), I m] w fun e w' => e = .returned (I (unbE t.es m)) ∧ Tq B base w' b (t.unbind m) ∧ Fm base b w w' := by
  have hw := h.wf.unbind m
  have hl := h.wf.le
  unfold T.unbind at *
  by_cases hz : unbE t.es m = 0
  · rw [if_pos hz] at hw ⊢
    rw [hz]
    exact (unbind_yes base b t.rt t.md m t.es w h.ls (by omega) h.wf.rise hz).mono fun _ _ ⟨h1, h2, h3⟩ => ⟨h1, ⟨h2, hw⟩, h3⟩
  · rw [if_neg hz] at hw ⊢
    exact (unbind_no base b t.rt t.md m _ t.es w h.ls (by omega) rfl hz).mono fun _ _ ⟨h1, h2⟩ => ⟨h1, ⟨h.ls.below h2, hw⟩, Fm.of_below h2 h.ls.base_le⟩
theorem root_Q (h : Tq B base w b t) (m : Int) :
    Calls Try.prog 12 #[.pointer (some ⟨b, 0, none⟩), I m] w fun e w' => e = .returned (.tuple #[I (rootTop t.rt t.es m), .bool (rootIs t.es m)]) ∧ Below w.heap.size w w' :=
  root_any base b t.rt t.md m t.es w h.ls (by have := h.wf.le; omega)
theorem up_Q (h : Tq B base w b t) (m n : Int) :
    Calls Try.prog 20 #[.pointer (some ⟨b, 0, none⟩), pv m n] w fun e w' => e = .returned (.tuple #[pv (upM t.es m n) (upN t.es m n), .bool (upIs t.es m n)]) ∧ Below w.heap.size w w' :=
  up_any base b t.rt t.md m n t.es w h.ls (by have := h.wf.le; omega)
theorem down_Q (h : Tq B base w b t) (m n : Int) :
    Calls Try.prog 11 #[.pointer (some ⟨b, 0, none⟩), pv m n] w fun e w' => e = .returned (pv (down t.md t.es m n).1 (down t.md t.es m n).2) ∧ Below w.heap.size w w' :=
  down_any base b t.rt t.md m n t.es w h.ls (by have := h.wf.le; omega) h.wf.eld
theorem covered_Q (h : Tq B base w b t) (n : Int) :
    Calls Try.prog 13 #[.pointer (some ⟨b, 0, none⟩), I n] w fun e w' => e = .returned (.bool (any t.es (isNd n))) ∧ Below w.heap.size w w' :=
  Covered_any base b t.rt t.md n t.es w h.ls (by have := h.wf.le; omega)
theorem list_Q (h : Tq B base w b t) :
    Calls Try.prog 25 #[.pointer (some ⟨b, 0, none⟩)] w fun e w' => ∃ v, e = .returned v ∧ w'.ownsRow w.heap.size 3 1 v (lst t.es).length (ints (lst t.es)) ∧ Below w.heap.size w w' :=
  list_any base b t.rt t.md t.es w h.ls (by have := h.wf.le; omega)
theorem above_Q (h : Tq B base w b t) (m : Int) :
    Calls Try.prog 15 #[.pointer (some ⟨b, 0, none⟩), I m] w fun e w' => ∃ v, e = .returned v ∧ w'.ownsRow w.heap.size 3 1 v (abv t.es m).length (ints (abv t.es m)) ∧ Below w.heap.size w w' :=
  above_any base b t.rt t.md m t.es w h.ls (by have := h.wf.le; omega)
end
end Go.Proofs.Ythmpplcaomgdoaa.Mt
