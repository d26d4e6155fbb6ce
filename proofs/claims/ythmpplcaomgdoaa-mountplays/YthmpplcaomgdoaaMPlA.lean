/-
  Both tables, and a call that both are asked.
-/
import Derived.Test.YthmpplcaomgdoaaMRefG
import Derived.Test.YthmpplcaomgdoaaMSame
namespace Go.Proofs.Ythmpplcaomgdoaa.Mt
open Go.RowKit

/-- Both tables in their blocks: the program's in block h, the document's in block R + 1. -/
structure PL (B : Int) (h R : Nat) (w W : World) (t : T) (rs : List Rm) : Prop where
  q : Tq B h W h t
  r : Rs R W (R + 1) rs
  rt : RT t rs
  be : Below h w W
  hr : h < R
section
variable {B : Int} {h R : Nat} {w W W' : World} {t : T} {rs : List Rm}
theorem PL.sz (s : PL B h R w W t rs) : R + 1 < W.heap.size := s.r.lt
theorem PL.below (s : PL B h R w W t rs) (g : Below W.heap.size W W') : PL B h R w W' t rs := ⟨s.q.below g, s.r.below g, s.rt, s.be.trans (g.mono (by have := s.sz; have := s.hr; omega)), s.hr⟩
theorem PL.alloc (s : PL B h R w W t rs) (o : Obj) : PL B h R w (W.alloc o) t rs := s.below (below_alloc _ _)
theorem PL.drew (s : PL B h R w W t rs) : PL B h R w W.drew t rs := s.below ⟨rfl, rfl, rfl, Nat.le_refl _, fun _ _ => rfl⟩
theorem PL.mono {B' : Int} (s : PL B h R w W t rs) (hB : B ≤ B') : PL B' h R w W t rs := ⟨⟨s.q.ls, s.q.wf.mono hB⟩, s.r, s.rt, s.be, s.hr⟩
theorem PL.len (s : PL B h R w W t rs) (hB : B ≤ 90) : rs.length ≤ 100 := by
  have := s.rt.len
  have := s.q.wf.pos
  omega
/-- What the program's calls leave of the document's table, and the other way round. -/
theorem Rs.fm (r : Rs R W (R + 1) rs) (q : Ls h W h t.rt t.md t.es) (hr : h < R) (f : Fm h h W W') : Rs R W' (R + 1) rs := by
  refine r.keep fun k cur ty hc ht => ?_
  refine (f.blk k _ hc ?_ (by
    intro cur' e
    rcases ht with rfl | rfl
    · obtain ⟨a, cap, h1, _⟩ := r.hb
      rw [h1] at hc
      simp at hc e
      rw [← hc.2] at e
      simp at e
    · simp at e)).trans hc.symm
  rintro rfl
  obtain ⟨a, cap, h1, _⟩ := q.hb
  rw [h1] at hc
  simp at hc
  rcases ht with e | e
  · omega
  · rw [e] at hc; simp at hc
theorem Ls.fq (q : Ls h W h t.rt t.md t.es) (r : Rs R W (R + 1) rs) (hr : h < R) (f : Fq R (R + 1) W W') : Ls h W' h t.rt t.md t.es := by
  refine q.keep fun k cur ty hc ht => ?_
  refine (f.blk k _ hc ?_ (by
    intro cur' e
    rcases ht with rfl | rfl
    · obtain ⟨a, cap, h1, _⟩ := q.hb
      rw [h1] at hc
      simp at hc e
      rw [← hc.2] at e
      simp at e
    · simp at e)).trans hc.symm
  rintro rfl
  obtain ⟨a, cap, h1, _⟩ := r.hb
  rw [h1] at hc
  simp at hc
  rcases ht with e | e
  · omega
  · rw [e] at hc; simp at hc
/-- Bind of both, one behind the other, while a call lies in block y. -/
theorem bind_1 (s : PL B h R w W t rs) (hB : B ≤ 90) (am an nd : Int) {y : Nat} {cs : Array Value} (hy : W.heap[y]? = some (.cells cs 42)) :
    Calls Try.prog 10 #[.pointer (some ⟨h, 0, none⟩), .agg #[I am, I an], I nd] W fun e w' => e = .returned (.tuple #[I (t.bindN am an), I (bindE t.es am an)]) ∧ Hid (Tq (B + 1) h w' h (t.bind am an nd) ∧ Rs R w' (R + 1) rs ∧ Below h w w') ∧ w'.heap[y]? = some (.cells cs 42) := by
  refine (bind_Q s.q (by omega) am an nd).mono ?_
  rintro e w' ⟨h1, h2, h3⟩
  refine ⟨h1, ⟨h2, s.r.fm s.q.ls s.hr h3, s.be.trans h3.below⟩, h3.blk y _ hy ?_ (by simp)⟩
  rintro rfl
  obtain ⟨a, cap, g1, _⟩ := s.q.ls.hb
  rw [g1] at hy
  simp at hy
theorem bind_2 (s : PL B h R w W t rs) (hB : B ≤ 90) (am an nd : Int) {V : World} {t' : T} (hq : Tq (B + 1) h V h t') (hr : Rs R V (R + 1) rs) (hbe : Below h w V) (ht : t' = t.bind am an nd) {y : Nat} {cs : Array Value} (hy : V.heap[y]? = some (.cells cs 42)) :
    Calls Try.prog 18 #[.pointer (some ⟨R + 1, 0, none⟩), .agg #[I am, I an], I nd] V fun e w' => e = .returned (.tuple #[I (t.bindN am an), I (bindE t.es am an)]) ∧ Hid (∃ rs', PL (B + 1) h R w w' t' rs') ∧ w'.heap[y]? = some (.cells cs 42) := by
  have hl := s.len hB
  have hyR : y ≠ R + 1 := by
    rintro rfl
    obtain ⟨a, cap, g1, _⟩ := hr.hb
    rw [g1] at hy
    simp at hy
  by_cases hz : bindE t.es am an = 0
  · have e1 : t.bindN am an = t.md + 1 := by rw [T.bindN, if_pos hz]
    rw [hz, e1]
    refine (rbind_yes s.rt s.q.wf hr hl am an nd hz).mono ?_
    rintro e w' ⟨rfl, h2, h3⟩
    refine ⟨rfl, ⟨_, ⟨⟨hq.ls.fq hr s.hr h3, hq.wf⟩, h2, by rw [ht]; exact s.rt.bind s.q.wf nd hz, hbe.trans (h3.below.mono (by have := s.hr; omega)), s.hr⟩⟩, h3.blk y _ hy hyR (by simp)⟩
  · have e1 : t.bindN am an = 0 := by rw [T.bindN, if_neg hz]
    rw [e1]
    refine (rbind_no s.rt s.q.wf hr hl am an nd _ rfl hz).mono ?_
    rintro e w' ⟨rfl, h2⟩
    have ht' : t' = t := by rw [ht, bind_same hz]
    refine ⟨rfl, ⟨rs, ⟨hq.below h2, hr.below h2, by rw [ht']; exact s.rt, hbe.trans (h2.mono (by have := hr.lt; have := s.hr; omega)), s.hr⟩⟩, (h2.block y (lt_of_heap hy)).trans hy⟩
theorem unbind_1 (s : PL B h R w W t rs) (m : Int) {y : Nat} {cs : Array Value} (hy : W.heap[y]? = some (.cells cs 42)) :
    Calls Try.prog 9 #[.pointer (some ⟨h, 0, none⟩), I m] W fun e w' => e = .returned (I (unbE t.es m)) ∧ Hid (Tq B h w' h (t.unbind m) ∧ Rs R w' (R + 1) rs ∧ Below h w w') ∧ w'.heap[y]? = some (.cells cs 42) := by
  refine (unbind_Q s.q m).mono ?_
  rintro e w' ⟨h1, h2, h3⟩
  refine ⟨h1, ⟨h2, s.r.fm s.q.ls s.hr h3, s.be.trans h3.below⟩, h3.blk y _ hy ?_ (by simp)⟩
  rintro rfl
  obtain ⟨a, cap, g1, _⟩ := s.q.ls.hb
  rw [g1] at hy
  simp at hy
theorem unbind_2 (s : PL B h R w W t rs) (hB : B ≤ 90) (m : Int) {V : World} (hq : Tq B h V h (t.unbind m)) (hr : Rs R V (R + 1) rs) (hbe : Below h w V) {y : Nat} {cs : Array Value} (hy : V.heap[y]? = some (.cells cs 42)) :
    Calls Try.prog 19 #[.pointer (some ⟨R + 1, 0, none⟩), I m] V fun e w' => e = .returned (I (unbE t.es m)) ∧ Hid (∃ rs', PL B h R w w' (t.unbind m) rs') ∧ w'.heap[y]? = some (.cells cs 42) := by
  have hl := s.len hB
  have hyR : y ≠ R + 1 := by
    rintro rfl
    obtain ⟨a, cap, g1, _⟩ := hr.hb
    rw [g1] at hy
    simp at hy
  by_cases hz : unbE t.es m = 0
  · rw [hz]
    refine (runbind_yes s.rt s.q.wf hr hl m hz).mono ?_
    rintro e w' ⟨rfl, ⟨rs', h2, h4, h5⟩, h3⟩
    exact ⟨rfl, ⟨rs', ⟨⟨hq.ls.fq hr s.hr h3, hq.wf⟩, h2, h4, hbe.trans (h3.below.mono (by have := s.hr; omega)), s.hr⟩⟩, h3.blk y _ hy hyR (by simp)⟩
  · refine (runbind_no s.rt s.q.wf hr hl m _ rfl hz).mono ?_
    rintro e w' ⟨rfl, h2⟩
    exact ⟨rfl, ⟨rs, ⟨hq.below h2, hr.below h2, by rw [unb_same hz]; exact s.rt, hbe.trans (h2.mono (by have := hr.lt; have := s.hr; omega)), s.hr⟩⟩, (h2.block y (lt_of_heap hy)).trans hy⟩
theorem cells5 {W : World} {b : Nat} {ty : TypeId} {a0 a1 a2 a3 a4 : Value} (h : W.heap[b]? = some (.cells #[a0, a1, a2, a3, a4] ty)) :
    W.cell? ⟨b, 0, none⟩ = some a0 ∧ W.cell? ⟨b, 1, none⟩ = some a1 ∧ W.cell? ⟨b, 2, none⟩ = some a2 ∧ W.cell? ⟨b, 3, none⟩ = some a3 ∧ W.cell? ⟨b, 4, none⟩ = some a4 := by
  refine ⟨?_, ?_, ?_, ?_, ?_⟩ <;> rw [cell_of h] <;> rfl
end
end Go.Proofs.Ythmpplcaomgdoaa.Mt
