/-
  Some of the chapter's runs.
-/
import Derived.Test.YthmpplcaomgdoaaMApi
namespace Go.Proofs.Ythmpplcaomgdoaa.Mt
open Go.RowKit
attribute [local go_sem ↓] Go.wp_at_zero Go.wp_at_succ

section
variable {B : Int} {base : Nat} {w : World} {b : Nat} {t : T}
/-- The calls at numbers that are known. -/
theorem bind_R (h : Tq B base w b t) (hB : B < 1000000) (am an nd n e : Int) (t' : T) (hn : t.bindN am an = n) (he : bindE t.es am an = e) (ht : t.bind am an nd = t') :
    Calls Try.prog 10 #[.pointer (some ⟨b, 0, none⟩), .agg #[I am, I an], I nd] w fun r w' => r = .returned (.tuple #[I n, I e]) ∧ Tq (B + 1) base w' b t' ∧ Fm base b w w' := by
  subst hn he ht
  exact (bind_Q h hB am an nd).mono fun _ _ ⟨h1, h2, h3⟩ => ⟨h1, h2, h3⟩
theorem unbind_R (h : Tq B base w b t) (m e : Int) (t' : T) (he : unbE t.es m = e) (ht : t.unbind m = t') :
    Calls Try.prog 9 #[.pointer (some ⟨b, 0, none⟩), I m] w fun r w' => r = .returned (I e) ∧ Tq B base w' b t' ∧ Fm base b w w' := by
  subst he ht
  exact (unbind_Q h m).mono fun _ _ ⟨h1, h2, h3⟩ => ⟨h1, h2, h3⟩
theorem root_R (h : Tq B base w b t) (m n : Int) (y : Bool) (hn : rootTop t.rt t.es m = n) (hy : rootIs t.es m = y) :
    Calls Try.prog 12 #[.pointer (some ⟨b, 0, none⟩), I m] w fun r w' => r = .returned (.tuple #[I n, .bool y]) ∧ Tq B base w' b t ∧ Below w.heap.size w w' := by
  subst hn hy
  exact (root_Q h m).mono fun _ _ ⟨h1, h2⟩ => ⟨h1, h.below h2, h2⟩
theorem up_R (h : Tq B base w b t) (m n m' n' : Int) (y : Bool) (h1 : upM t.es m n = m') (h2 : upN t.es m n = n') (hy : upIs t.es m n = y) :
    Calls Try.prog 20 #[.pointer (some ⟨b, 0, none⟩), .agg #[I m, I n]] w fun r w' => r = .returned (.tuple #[.agg #[I m', I n'], .bool y]) ∧ Tq B base w' b t ∧ Below w.heap.size w w' := by
  subst h1 h2 hy
  exact (up_Q h m n).mono fun _ _ ⟨h1, h2⟩ => ⟨h1, h.below h2, h2⟩
theorem down_R (h : Tq B base w b t) (m n m' n' : Int) (hd : down t.md t.es m n = (m', n')) :
    Calls Try.prog 11 #[.pointer (some ⟨b, 0, none⟩), .agg #[I m, I n]] w fun r w' => r = .returned (.agg #[I m', I n']) ∧ Tq B base w' b t ∧ Below w.heap.size w w' := by
  have := down_Q h m n
  rw [hd] at this
  exact this.mono fun _ _ ⟨h1, h2⟩ => ⟨h1, h.below h2, h2⟩
theorem covered_R (h : Tq B base w b t) (n : Int) (y : Bool) (hy : any t.es (isNd n) = y) :
    Calls Try.prog 13 #[.pointer (some ⟨b, 0, none⟩), I n] w fun r w' => r = .returned (.bool y) ∧ Tq B base w' b t ∧ Below w.heap.size w w' := by
  subst hy
  exact (covered_Q h n).mono fun _ _ ⟨h1, h2⟩ => ⟨h1, h.below h2, h2⟩
end
set_option maxRecDepth 100000 in
set_option maxHeartbeats 1000000 in
theorem known_any (w : World) : Calls Try.prog 16 #[] w fun e w' => e = .returned (.bool true) ∧ Below w.heap.size w w' := by
  go_enter Try.func16, Try.ntmps16
  go_wp2_with fail
  refine (new_Q 1 w).mono ?_
  rintro e w1 ⟨rfl, h1, b1⟩
  have H1 := hide h1
  have B1 := hide b1
  clear h1 b1
  go_wp2_with fail
  refine (bind_R (unhide H1) (by decide) 0 2 5 1 0 ⟨1, 1, [⟨1, 5, 0, 2⟩]⟩ (by rfl) (by rfl) (by rfl)).mono ?_
  rintro e w2 ⟨rfl, h2, b2⟩
  have H2 := hide h2
  have B2 := hide ((unhide B1).trans b2.below)
  clear h2 b2 H1 B1
  go_wp2_with fail
  refine (bind_R (unhide H2) (by decide) 0 2 6 0 15 ⟨1, 1, [⟨1, 5, 0, 2⟩]⟩ (by rfl) (by rfl) (by rfl)).mono ?_
  rintro e w3 ⟨rfl, h2, b2⟩
  have H3 := hide h2
  have B3 := hide ((unhide B2).trans b2.below)
  clear h2 b2 H2 B2
  go_wp2_with fail
  refine (up_R (unhide H3) 1 5 0 2 true (by rfl) (by rfl) (by rfl)).mono ?_
  rintro e w4 ⟨rfl, h2, b2⟩
  replace b2 := b2.mono (unhide B3).size
  have hs4 : w.heap.size ≤ w4.heap.size := ((unhide B3).trans b2).size
  have h5 := h2.below (below_alloc w4 (.cells #[I 0, I 2] 29))
  have b5 := ((unhide B3).trans b2).alloc hs4 (.cells #[I 0, I 2] 29)
  have q5 : (w4.alloc (.cells #[I 0, I 2] 29)).heap[w4.heap.size]? = some (.cells #[I 0, I 2] 29) := putAll _ _ rfl
  have H5 := hide h5
  have B5 := hide b5
  have Q5 := hide q5
  clear h2 b2 H3 B3 h5 b5 q5
  go_wp2_with fail
  refine (down_R (unhide H5) 0 2 1 5 (by rfl)).mono ?_
  rintro e w6 ⟨rfl, h2, b2⟩
  have q6 := (b2.block _ (lt_of_heap (unhide Q5))).trans (unhide Q5)
  obtain ⟨c0, c1⟩ := cells2 q6
  have B6 := hide ((unhide B5).trans (b2.mono (unhide B5).size))
  clear h2 b2 H5 B5 Q5 q6
  go_wp2_with fail
  go_ret
  exact ⟨rfl, unhide B6⟩
end Go.Proofs.Ythmpplcaomgdoaa.Mt
