/-
  Both tables, while a call and two places lie in blocks: what each call answers.
-/
import Derived.Test.YthmpplcaomgdoaaMPlA
namespace Go.Proofs.Ythmpplcaomgdoaa.Mt
open Go.RowKit
structure PY (B : Int) (h R : Nat) (w W : World) (t : T) (rs : List Rm) (y p q : Nat) (kd m nd am an ua ub : Int) : Prop where
  pl : PL B h R w W t rs
  hy : W.heap[y]? = some (.cells #[I kd, I m, I nd, I am, I an] 42)
  hp : W.heap[p]? = some (.cells #[I ua, I ub] 29)
  hq : W.heap[q]? = some (.cells #[I ua, I ub] 29)
section
variable {B : Int} {h R : Nat} {w W W' : World} {t : T} {rs : List Rm} {y p q : Nat} {kd m nd am an ua ub : Int}
theorem PY.below (s : PY B h R w W t rs y p q kd m nd am an ua ub) (g : Below W.heap.size W W') : PY B h R w W' t rs y p q kd m nd am an ua ub :=
  ⟨s.pl.below g, (g.block y (lt_of_heap s.hy)).trans s.hy, (g.block p (lt_of_heap s.hp)).trans s.hp, (g.block q (lt_of_heap s.hq)).trans s.hq⟩
theorem PY.drew (s : PY B h R w W t rs y p q kd m nd am an ua ub) : PY B h R w W.drew t rs y p q kd m nd am an ua ub := ⟨s.pl.drew, s.hy, s.hp, s.hq⟩
theorem PY.cells (s : PY B h R w W t rs y p q kd m nd am an ua ub) : W.cell? ⟨y, 1, none⟩ = some (I m) ∧ W.cell? ⟨y, 2, none⟩ = some (I nd) ∧ W.cell? ⟨y, 3, none⟩ = some (I am) ∧ W.cell? ⟨y, 4, none⟩ = some (I an) ∧ W.cell? ⟨p, 0, none⟩ = some (I ua) ∧ W.cell? ⟨p, 1, none⟩ = some (I ub) ∧ W.cell? ⟨q, 0, none⟩ = some (I ua) ∧ W.cell? ⟨q, 1, none⟩ = some (I ub) := by
  obtain ⟨_, y1, y2, y3, y4⟩ := cells5 s.hy
  obtain ⟨p0, p1⟩ := cells2 s.hp
  obtain ⟨q0, q1⟩ := cells2 s.hq
  exact ⟨y1, y2, y3, y4, p0, p1, q0, q1⟩
theorem down_P (s : PY B h R w W t rs y p q kd m nd am an ua ub) {d1 d2 : Int} (hd : down t.md t.es am an = (d1, d2)) :
    Calls Try.prog 11 #[.pointer (some ⟨h, 0, none⟩), .agg #[I am, I an]] W fun e w' => e = .returned (.agg #[I d1, I d2]) ∧ (w'.cell? ⟨y, 1, none⟩ = some (I m) ∧ w'.cell? ⟨y, 2, none⟩ = some (I nd) ∧ w'.cell? ⟨y, 3, none⟩ = some (I am) ∧ w'.cell? ⟨y, 4, none⟩ = some (I an) ∧ w'.cell? ⟨p, 0, none⟩ = some (I ua) ∧ w'.cell? ⟨p, 1, none⟩ = some (I ub) ∧ w'.cell? ⟨q, 0, none⟩ = some (I ua) ∧ w'.cell? ⟨q, 1, none⟩ = some (I ub)) ∧ Hid (PY B h R w w' t rs y p q kd m nd am an ua ub) := by
  refine (down_R s.pl.q am an _ _ hd).mono ?_
  rintro e w' ⟨h1, _, h3⟩
  exact ⟨h1, (s.below h3).cells, s.below h3⟩
theorem rdown_P (s : PY B h R w W t rs y p q kd m nd am an ua ub) (hB : B ≤ 90) {d1 d2 : Int} (hd : down t.md t.es am an = (d1, d2)) :
    Calls Try.prog 23 #[.pointer (some ⟨R + 1, 0, none⟩), .agg #[I am, I an]] W fun e w' => e = .returned (.agg #[I d1, I d2]) ∧ (w'.cell? ⟨y, 1, none⟩ = some (I m) ∧ w'.cell? ⟨y, 2, none⟩ = some (I nd) ∧ w'.cell? ⟨y, 3, none⟩ = some (I am) ∧ w'.cell? ⟨y, 4, none⟩ = some (I an) ∧ w'.cell? ⟨p, 0, none⟩ = some (I ua) ∧ w'.cell? ⟨p, 1, none⟩ = some (I ub) ∧ w'.cell? ⟨q, 0, none⟩ = some (I ua) ∧ w'.cell? ⟨q, 1, none⟩ = some (I ub)) ∧ Hid (PY B h R w w' t rs y p q kd m nd am an ua ub) := by
  refine (rdown_any s.pl.rt s.pl.q.wf s.pl.r (s.pl.len hB) am an).mono ?_
  rintro e w' ⟨h1, h3⟩
  rw [hd] at h1
  exact ⟨h1, (s.below h3).cells, s.below h3⟩
theorem cov_P (s : PY B h R w W t rs y p q kd m nd am an ua ub) {c : Bool} (hc : any t.es (isNd nd) = c) :
    Calls Try.prog 13 #[.pointer (some ⟨h, 0, none⟩), I nd] W fun e w' => e = .returned (.bool c) ∧ (w'.cell? ⟨y, 1, none⟩ = some (I m) ∧ w'.cell? ⟨y, 2, none⟩ = some (I nd) ∧ w'.cell? ⟨y, 3, none⟩ = some (I am) ∧ w'.cell? ⟨y, 4, none⟩ = some (I an) ∧ w'.cell? ⟨p, 0, none⟩ = some (I ua) ∧ w'.cell? ⟨p, 1, none⟩ = some (I ub) ∧ w'.cell? ⟨q, 0, none⟩ = some (I ua) ∧ w'.cell? ⟨q, 1, none⟩ = some (I ub)) ∧ Hid (PY B h R w w' t rs y p q kd m nd am an ua ub) := by
  refine (covered_Q s.pl.q nd).mono ?_
  rintro e w' ⟨h1, h3⟩
  rw [hc] at h1
  exact ⟨h1, (s.below h3).cells, s.below h3⟩
theorem rcov_P (s : PY B h R w W t rs y p q kd m nd am an ua ub) (hB : B ≤ 90) {c : Bool} (hc : any t.es (isNd nd) = c) :
    Calls Try.prog 24 #[.pointer (some ⟨R + 1, 0, none⟩), I nd] W fun e w' => e = .returned (.bool c) ∧ (w'.cell? ⟨y, 1, none⟩ = some (I m) ∧ w'.cell? ⟨y, 2, none⟩ = some (I nd) ∧ w'.cell? ⟨y, 3, none⟩ = some (I am) ∧ w'.cell? ⟨y, 4, none⟩ = some (I an) ∧ w'.cell? ⟨p, 0, none⟩ = some (I ua) ∧ w'.cell? ⟨p, 1, none⟩ = some (I ub) ∧ w'.cell? ⟨q, 0, none⟩ = some (I ua) ∧ w'.cell? ⟨q, 1, none⟩ = some (I ub)) ∧ Hid (PY B h R w w' t rs y p q kd m nd am an ua ub) := by
  refine (rcov_any R (R + 1) rs nd W s.pl.r (by have := s.pl.len hB; omega)).mono ?_
  rintro e w' ⟨⟨r, ho, h1⟩, rfl⟩
  rw [s.pl.rt.cov s.pl.q.wf ho, hc] at h1
  exact ⟨h1, s.cells, s⟩
theorem list_P (s : PY B h R w W t rs y p q kd m nd am an ua ub) {L : List Int} {n : Nat} (hL : lst t.es = L) (hn : L.length = n) :
    Calls Try.prog 25 #[.pointer (some ⟨h, 0, none⟩)] W fun e w' => ∃ a cap, e = .returned (.slice a n cap) ∧ (w'.cell? ⟨y, 1, none⟩ = some (I m) ∧ w'.cell? ⟨y, 2, none⟩ = some (I nd) ∧ w'.cell? ⟨y, 3, none⟩ = some (I am) ∧ w'.cell? ⟨y, 4, none⟩ = some (I an) ∧ w'.cell? ⟨p, 0, none⟩ = some (I ua) ∧ w'.cell? ⟨p, 1, none⟩ = some (I ub) ∧ w'.cell? ⟨q, 0, none⟩ = some (I ua) ∧ w'.cell? ⟨q, 1, none⟩ = some (I ub)) ∧ Hid (PY B h R w w' t rs y p q kd m nd am an ua ub ∧ Sl w' a L) := by
  refine (list_Q s.pl.q).mono ?_
  rintro e w' ⟨v, rfl, h1, h2⟩
  rw [hL] at h1
  obtain ⟨a, cap, rfl, h3⟩ := Sl.of h1
  rw [hn]
  exact ⟨a, cap, rfl, (s.below h2).cells, s.below h2, h3⟩
theorem rlist_P (s : PY B h R w W t rs y p q kd m nd am an ua ub) (hB : B ≤ 90) {L : List Int} {n : Nat} (hL : lst t.es = L) (hn : L.length = n) {a0 : Option Addr} (g : Sl W a0 L) :
    Calls Try.prog 26 #[.pointer (some ⟨R + 1, 0, none⟩)] W fun e w' => ∃ a cap, e = .returned (.slice a n cap) ∧ (w'.cell? ⟨y, 1, none⟩ = some (I m) ∧ w'.cell? ⟨y, 2, none⟩ = some (I nd) ∧ w'.cell? ⟨y, 3, none⟩ = some (I am) ∧ w'.cell? ⟨y, 4, none⟩ = some (I an) ∧ w'.cell? ⟨p, 0, none⟩ = some (I ua) ∧ w'.cell? ⟨p, 1, none⟩ = some (I ub) ∧ w'.cell? ⟨q, 0, none⟩ = some (I ua) ∧ w'.cell? ⟨q, 1, none⟩ = some (I ub)) ∧ Hid (PY B h R w w' t rs y p q kd m nd am an ua ub ∧ Sl w' a0 L ∧ Sl w' a L) := by
  refine (rlist_any R (R + 1) rs W s.pl.r (by have := s.pl.len hB; omega)).mono ?_
  rintro e w' ⟨v, rfl, h1, h2⟩
  rw [s.pl.rt.list s.pl.q.wf, hL] at h1
  obtain ⟨a, cap, rfl, h3⟩ := Sl.of h1
  rw [hn]
  exact ⟨a, cap, rfl, (s.below h2).cells, s.below h2, g.below h2, h3⟩
theorem above_P (s : PY B h R w W t rs y p q kd m nd am an ua ub) {L : List Int} {n : Nat} (hL : abv t.es m = L) (hn : L.length = n) :
    Calls Try.prog 15 #[.pointer (some ⟨h, 0, none⟩), I m] W fun e w' => ∃ a cap, e = .returned (.slice a n cap) ∧ (w'.cell? ⟨y, 1, none⟩ = some (I m) ∧ w'.cell? ⟨y, 2, none⟩ = some (I nd) ∧ w'.cell? ⟨y, 3, none⟩ = some (I am) ∧ w'.cell? ⟨y, 4, none⟩ = some (I an) ∧ w'.cell? ⟨p, 0, none⟩ = some (I ua) ∧ w'.cell? ⟨p, 1, none⟩ = some (I ub) ∧ w'.cell? ⟨q, 0, none⟩ = some (I ua) ∧ w'.cell? ⟨q, 1, none⟩ = some (I ub)) ∧ Hid (PY B h R w w' t rs y p q kd m nd am an ua ub ∧ Sl w' a L) := by
  refine (above_Q s.pl.q m).mono ?_
  rintro e w' ⟨v, rfl, h1, h2⟩
  rw [hL] at h1
  obtain ⟨a, cap, rfl, h3⟩ := Sl.of h1
  rw [hn]
  exact ⟨a, cap, rfl, (s.below h2).cells, s.below h2, h3⟩
theorem rabove_P (s : PY B h R w W t rs y p q kd m nd am an ua ub) (hB : B ≤ 90) {L : List Int} {n : Nat} (hL : abv t.es m = L) (hn : L.length = n) {a0 : Option Addr} (g : Sl W a0 L) :
    Calls Try.prog 27 #[.pointer (some ⟨R + 1, 0, none⟩), I m] W fun e w' => ∃ a cap, e = .returned (.slice a n cap) ∧ (w'.cell? ⟨y, 1, none⟩ = some (I m) ∧ w'.cell? ⟨y, 2, none⟩ = some (I nd) ∧ w'.cell? ⟨y, 3, none⟩ = some (I am) ∧ w'.cell? ⟨y, 4, none⟩ = some (I an) ∧ w'.cell? ⟨p, 0, none⟩ = some (I ua) ∧ w'.cell? ⟨p, 1, none⟩ = some (I ub) ∧ w'.cell? ⟨q, 0, none⟩ = some (I ua) ∧ w'.cell? ⟨q, 1, none⟩ = some (I ub)) ∧ Hid (PY B h R w w' t rs y p q kd m nd am an ua ub ∧ Sl w' a0 L ∧ Sl w' a L) := by
  refine (rabove_any R (R + 1) rs m W s.pl.r (by have := s.pl.len hB; omega)).mono ?_
  rintro e w' ⟨v, rfl, h1, h2⟩
  rw [s.pl.rt.above s.pl.q.wf, hL] at h1
  obtain ⟨a, cap, rfl, h3⟩ := Sl.of h1
  rw [hn]
  exact ⟨a, cap, rfl, (s.below h2).cells, s.below h2, g.below h2, h3⟩
theorem same_P (s : PY B h R w W t rs y p q kd m nd am an ua ub) {L : List Int} {n c1 c2 : Nat} (hn : L.length = n) (hx : n ≤ 1000) {a1 a2 : Option Addr} (g1 : Sl W a1 L) (g2 : Sl W a2 L) :
    Calls Try.prog 14 #[.slice a1 n c1, .slice a2 n c2] W fun e w' => e = .returned (.bool true) ∧ (w'.cell? ⟨y, 1, none⟩ = some (I m) ∧ w'.cell? ⟨y, 2, none⟩ = some (I nd) ∧ w'.cell? ⟨y, 3, none⟩ = some (I am) ∧ w'.cell? ⟨y, 4, none⟩ = some (I an) ∧ w'.cell? ⟨p, 0, none⟩ = some (I ua) ∧ w'.cell? ⟨p, 1, none⟩ = some (I ub) ∧ w'.cell? ⟨q, 0, none⟩ = some (I ua) ∧ w'.cell? ⟨q, 1, none⟩ = some (I ub)) ∧ Hid (PY B h R w w' t rs y p q kd m nd am an ua ub) := by
  have := same_any a1 a2 c1 c2 L L W g1 g2 (by omega)
  rw [hn] at this
  refine this.mono ?_
  rintro e w' ⟨h1, h3⟩
  exact ⟨by simpa using h1, (s.below h3).cells, s.below h3⟩
theorem up_PL (s : PL B h R w W t rs) (hy : W.heap[y]? = some (.cells #[I kd, I m, I nd, I am, I an] 42)) {c : Bool} (h1 : upM t.es am an = ua) (h2 : upN t.es am an = ub) (h3 : upIs t.es am an = c) :
    Calls Try.prog 20 #[.pointer (some ⟨h, 0, none⟩), .agg #[I am, I an]] W fun e w' => e = .returned (.tuple #[.agg #[I ua, I ub], .bool c]) ∧ Hid (PL B h R w w' t rs ∧ w'.heap[y]? = some (.cells #[I kd, I m, I nd, I am, I an] 42)) := by
  subst h1 h2 h3
  refine (up_Q s.q am an).mono ?_
  rintro e w' ⟨h1, h3⟩
  exact ⟨h1, s.below h3, (h3.block y (lt_of_heap hy)).trans hy⟩
theorem rup_PL (s : PL B h R w W t rs) (hy : W.heap[y]? = some (.cells #[I kd, I m, I nd, I am, I an] 42)) (hp : W.heap[p]? = some (.cells #[I ua, I ub] 29)) {c : Bool} (h1 : upM t.es am an = ua) (h2 : upN t.es am an = ub) (h3 : upIs t.es am an = c) :
    Calls Try.prog 21 #[.pointer (some ⟨R + 1, 0, none⟩), .agg #[I am, I an]] W fun e w' => e = .returned (.tuple #[.agg #[I ua, I ub], .bool c]) ∧ Hid (PL B h R w w' t rs ∧ w'.heap[y]? = some (.cells #[I kd, I m, I nd, I am, I an] 42) ∧ w'.heap[p]? = some (.cells #[I ua, I ub] 29)) := by
  subst h1 h2 h3
  refine (rup_any s.rt s.q.wf s.r am an).mono ?_
  rintro e w' ⟨h1, h3⟩
  exact ⟨h1, s.below h3, (h3.block y (lt_of_heap hy)).trans hy, (h3.block p (lt_of_heap hp)).trans hp⟩
theorem root_P (s : PY B h R w W t rs y p q kd m nd am an ua ub) {tp : Int} {c : Bool} (h1 : rootTop t.rt t.es m = tp) (h2 : rootIs t.es m = c) :
    Calls Try.prog 12 #[.pointer (some ⟨h, 0, none⟩), I m] W fun e w' => e = .returned (.tuple #[I tp, .bool c]) ∧ (w'.cell? ⟨y, 1, none⟩ = some (I m) ∧ w'.cell? ⟨y, 2, none⟩ = some (I nd) ∧ w'.cell? ⟨y, 3, none⟩ = some (I am) ∧ w'.cell? ⟨y, 4, none⟩ = some (I an) ∧ w'.cell? ⟨p, 0, none⟩ = some (I ua) ∧ w'.cell? ⟨p, 1, none⟩ = some (I ub) ∧ w'.cell? ⟨q, 0, none⟩ = some (I ua) ∧ w'.cell? ⟨q, 1, none⟩ = some (I ub)) ∧ Hid (PY B h R w w' t rs y p q kd m nd am an ua ub) := by
  refine (root_R s.pl.q m _ _ h1 h2).mono ?_
  rintro e w' ⟨h1, _, h3⟩
  exact ⟨h1, (s.below h3).cells, s.below h3⟩
theorem rroot_P (s : PY B h R w W t rs y p q kd m nd am an ua ub) {tp : Int} {c : Bool} (h1 : rootTop t.rt t.es m = tp) (h2 : rootIs t.es m = c) :
    Calls Try.prog 22 #[.pointer (some ⟨R + 1, 0, none⟩), I m] W fun e w' => e = .returned (.tuple #[I tp, .bool c]) ∧ (w'.cell? ⟨y, 1, none⟩ = some (I m) ∧ w'.cell? ⟨y, 2, none⟩ = some (I nd) ∧ w'.cell? ⟨y, 3, none⟩ = some (I am) ∧ w'.cell? ⟨y, 4, none⟩ = some (I an) ∧ w'.cell? ⟨p, 0, none⟩ = some (I ua) ∧ w'.cell? ⟨p, 1, none⟩ = some (I ub) ∧ w'.cell? ⟨q, 0, none⟩ = some (I ua) ∧ w'.cell? ⟨q, 1, none⟩ = some (I ub)) ∧ Hid (PY B h R w w' t rs y p q kd m nd am an ua ub) := by
  refine (rroot_any R (R + 1) rs m W s.pl.r).mono ?_
  rintro e w' ⟨e1, rfl⟩
  rw [s.pl.rt.root s.pl.q.wf, s.pl.rt.is s.pl.q.wf, h1, h2] at e1
  exact ⟨e1, s.cells, s⟩
end
end Go.Proofs.Ythmpplcaomgdoaa.Mt
