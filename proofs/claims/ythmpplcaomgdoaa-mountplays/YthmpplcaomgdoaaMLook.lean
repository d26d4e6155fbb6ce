/-
  The contracts of numbered, lyingAt, Root, Covered, Up.
-/
import Derived.Test.YthmpplcaomgdoaaMFirst
namespace Go.Proofs.Ythmpplcaomgdoaa.Mt
open Go.RowKit
attribute [local go_sem ↓] Go.wp_at_zero Go.wp_at_succ

def isN (m : Int) : Ld → Bool := fun p => decide (p.n = m)
def isM (m : Int) : Ld → Bool := fun p => decide (p.am = m)
def isNd (n : Int) : Ld → Bool := fun p => decide (p.an = n)
def isAt (m n : Int) : Ld → Bool := fun p => decide (p.am = m ∧ p.an = n)
theorem Ls.alloc {base : Nat} {W : World} {b : Nat} {rt md : Int} {es : Ents} (h : Ls base W b rt md es) (o : Obj) : Ls base (W.alloc o) b rt md es := h.below (below_alloc _ _)

theorem numbered_any (base b : Nat) (rt md m : Int) (es : Ents) (w : World) (hG : Ls base w b rt md es) (hes : es.length ≤ 1000) :
    Calls Try.prog 29 #[.pointer (some ⟨b, 0, none⟩), I m] w fun e w' => e = .returned (.tuple #[lv (fst es (isN m)), .bool (any es (isN m))]) ∧ Below w.heap.size w w' := by
  obtain ⟨V, hV, hs, hx, hz, hb⟩ := two0 w (.cells #[I m] 3) (.cells #[I 0, I 0, I 0, I 0] 59)
  have HF := hide (first_any base b rt md es 39 w.heap.size (isN m) V (hG.below hb) hes (enters_of Try.func39 (by kernel_rfl) rfl)
    (fun p W hB => num1_any p _ m W (by rw [World.cell?_of_block (hB.block w.heap.size (by omega)), cell_of hx]; rfl)))
  generalize fst es (isN m) = x at *
  generalize any es (isN m) = y at *
  have HB := hide hb
  clear hb hG
  go_enter Try.func29, Try.ntmps29
  go_wp2_with fail
  refine (unhide HF).mono ?_
  rintro e w1 ⟨rfl, hB⟩
  have hz1 := (hB.block _ (by omega)).trans hz
  obtain ⟨X1, X2, X3, W6, ⟨x1, x2, x3, x4⟩, ⟨c0, c1, c2, c3⟩, ⟨f0, f1, f2, f3⟩, q1, hfr, hsx⟩ := store4 hz1 (I x.n) (I x.top) (I x.am) (I x.an)
  have hB1 := hide ((unhide HB).trans ((hB.mono (by omega)).trans (hfr.base (B := w.heap.size) (by have := hB.size; omega) (by simp))))
  obtain ⟨z0, z1, z2, z3⟩ := cells4 q1
  clear hB HF HB q1 hfr hsx hz hz1 hV hs hx
  unfold lv
  go_wp2_with fail
  refine bodyPost_ret (v := .tuple #[.agg #[I x.n, I x.top, I x.am, I x.an], .bool y]) (by simp [results, Try.results29, go_sem, z0, z1, z2, z3]) rfl ?_
  exact ⟨rfl, unhide hB1⟩
theorem lyingAt_any (base b : Nat) (rt md m n : Int) (es : Ents) (w : World) (hG : Ls base w b rt md es) (hes : es.length ≤ 1000) :
    Calls Try.prog 34 #[.pointer (some ⟨b, 0, none⟩), pv m n] w fun e w' => e = .returned (.tuple #[lv (fst es (isAt m n)), .bool (any es (isAt m n))]) ∧ Below w.heap.size w w' := by
  obtain ⟨V, hV, hs, hx, hz, hb⟩ := two0 w (.cells #[I m, I n] 29) (.cells #[I 0, I 0, I 0, I 0] 59)
  have HF := hide (first_any base b rt md es 41 w.heap.size (isAt m n) V (hG.below hb) hes (enters_of Try.func41 (by kernel_rfl) rfl)
    (fun p W hB => lie1_any p _ m n W (by rw [World.cell?_of_block (hB.block w.heap.size (by omega)), cell_of hx]; rfl) (by rw [World.cell?_of_block (hB.block w.heap.size (by omega)), cell_of hx]; rfl)))
  generalize fst es (isAt m n) = x at *
  generalize any es (isAt m n) = y at *
  have HB := hide hb
  clear hb hG
  unfold pv
  go_enter Try.func34, Try.ntmps34
  go_wp2_with fail
  refine (unhide HF).mono ?_
  rintro e w1 ⟨rfl, hB⟩
  have hz1 := (hB.block _ (by omega)).trans hz
  obtain ⟨X1, X2, X3, W6, ⟨x1, x2, x3, x4⟩, ⟨c0, c1, c2, c3⟩, ⟨f0, f1, f2, f3⟩, q1, hfr, hsx⟩ := store4 hz1 (I x.n) (I x.top) (I x.am) (I x.an)
  have hB1 := hide ((unhide HB).trans ((hB.mono (by omega)).trans (hfr.base (B := w.heap.size) (by have := hB.size; omega) (by simp))))
  obtain ⟨z0, z1, z2, z3⟩ := cells4 q1
  clear hB HF HB q1 hfr hsx hz hz1 hV hs hx
  unfold lv
  go_wp2_with fail
  refine bodyPost_ret (v := .tuple #[.agg #[I x.n, I x.top, I x.am, I x.an], .bool y]) (by simp [results, Try.results34, go_sem, z0, z1, z2, z3]) rfl ?_
  exact ⟨rfl, unhide hB1⟩
theorem Covered_any (base b : Nat) (rt md m : Int) (es : Ents) (w : World) (hG : Ls base w b rt md es) (hes : es.length ≤ 1000) :
    Calls Try.prog 13 #[.pointer (some ⟨b, 0, none⟩), I m] w fun e w' => e = .returned (.bool (any es (isNd m))) ∧ Below w.heap.size w w' := by
  obtain ⟨V, hV, hs, hx, hb⟩ : ∃ V, w.alloc (.cells #[I m] 3) = V ∧ V.heap.size = w.heap.size + 1 ∧ V.heap[w.heap.size]? = some (.cells #[I m] 3) ∧ Below w.heap.size w V := ⟨_, rfl, by simp, putAll _ _ rfl, below_alloc _ _⟩
  have HF := hide (first_any base b rt md es 35 w.heap.size (isNd m) V (hG.below hb) hes (enters_of Try.func35 (by kernel_rfl) rfl)
    (fun p W hB => cov1_any p _ m W (by rw [World.cell?_of_block (hB.block w.heap.size (by omega)), cell_of hx]; rfl)))
  generalize fst es (isNd m) = x at *
  generalize any es (isNd m) = y at *
  have HB := hide hb
  clear hb hG
  go_enter Try.func13, Try.ntmps13
  go_wp2_with fail
  refine (unhide HF).mono ?_
  rintro e w1 ⟨rfl, hB⟩
  have hB1 := hide ((unhide HB).trans (hB.mono (by omega)))
  clear hB HF HB hV hs hx
  unfold lv
  go_wp2_with fail
  go_ret
  exact ⟨rfl, (unhide hB1).alloc (unhide hB1).size _⟩
/-- What Root answers. -/
def rootTop (rt : Int) (es : Ents) (m : Int) : Int := if m = 0 then rt else (fst es (isN m)).top
def rootIs (es : Ents) (m : Int) : Bool := if m = 0 then true else any es (isN m)
theorem root_any (base b : Nat) (rt md m : Int) (es : Ents) (w : World) (hG : Ls base w b rt md es) (hes : es.length ≤ 1000) :
    Calls Try.prog 12 #[.pointer (some ⟨b, 0, none⟩), I m] w fun e w' => e = .returned (.tuple #[I (rootTop rt es m), .bool (rootIs es m)]) ∧ Below w.heap.size w w' := by
  obtain ⟨a, cap, h0, _, _, _, _⟩ := hG.cells
  have HF := hide (numbered_any base b rt md m es w hG hes)
  clear hG
  by_cases hm : m = 0
  · rw [rootTop, rootIs, if_pos hm, if_pos hm]
    subst hm
    clear HF
    go_enter Try.func12, Try.ntmps12
    go_wp2_with fail
    go_ret2
    exact ⟨rfl, Below.refl _ _⟩
  · rw [rootTop, rootIs, if_neg hm, if_neg hm]
    generalize fst es (isN m) = x at *
    generalize any es (isN m) = y at *
    go_enter Try.func12, Try.ntmps12
    go_wp2_with fail
    refine (unhide HF).mono ?_
    rintro e w1 ⟨rfl, hB⟩
    have hB1 := hide hB
    clear hB HF h0
    unfold lv
    go_wp2_with fail
    go_ret2
    exact ⟨rfl, (unhide hB1).alloc (unhide hB1).size _⟩
/-- What Up answers. -/
def upIs (es : Ents) (m n : Int) : Bool := any es (isN m) && decide ((fst es (isN m)).top = n)
def upM (es : Ents) (m n : Int) : Int := if upIs es m n then (fst es (isN m)).am else m
def upN (es : Ents) (m n : Int) : Int := if upIs es m n then (fst es (isN m)).an else n
theorem store2 {W : World} {b : Nat} {t : TypeId} {a0 a1 : Value} (h : W.heap[b]? = some (.cells #[a0, a1] t)) (v0 v1 : Value) :
    ∃ X1 X2 : World, (W.setCell ⟨b, 0, none⟩ v0 = X1 ∧ X1.setCell ⟨b, 1, none⟩ v1 = X2) ∧ (W.cell? ⟨b, 0, none⟩ = some a0 ∧ X1.cell? ⟨b, 1, none⟩ = some a1) ∧
      (W.frozen? ⟨b, 0, none⟩ = false ∧ X1.frozen? ⟨b, 1, none⟩ = false) ∧ X2.heap[b]? = some (.cells #[v0, v1] t) ∧ Fr [b] W X2 ∧ X2.heap.size = W.heap.size := by
  have h1 := heap_set h 0 v0
  have h2 := heap_set h1 1 v1
  refine ⟨_, _, ⟨rfl, rfl⟩, ⟨?_, ?_⟩, ⟨frozen_of h _, frozen_of h1 _⟩, h2, ?_, ?_⟩
  · rw [cell_of h]; rfl
  · rw [cell_of h1]; rfl
  · exact ((Fr.refl [b] W).set (a := ⟨b, 0, none⟩) (by simp) v0).set (a := ⟨b, 1, none⟩) (by simp) v1
  · simp [World.setCell]
theorem cells2 {W : World} {b : Nat} {t : TypeId} {a0 a1 : Value} (h : W.heap[b]? = some (.cells #[a0, a1] t)) :
    W.cell? ⟨b, 0, none⟩ = some a0 ∧ W.cell? ⟨b, 1, none⟩ = some a1 := by
  refine ⟨?_, ?_⟩ <;> rw [cell_of h] <;> rfl
theorem up_any (base b : Nat) (rt md m n : Int) (es : Ents) (w : World) (hG : Ls base w b rt md es) (hes : es.length ≤ 1000) :
    Calls Try.prog 20 #[.pointer (some ⟨b, 0, none⟩), pv m n] w fun e w' => e = .returned (.tuple #[pv (upM es m n) (upN es m n), .bool (upIs es m n)]) ∧ Below w.heap.size w w' := by
  obtain ⟨V, hV, hs, hx, hz, hb⟩ := two0 w (.cells #[I m, I n] 29) (.cells #[I 0, I 0] 29)
  have HF := hide (numbered_any base b rt md m es V (hG.below hb) hes)
  rw [upM, upN, upIs]
  generalize fst es (isN m) = x at *
  generalize any es (isN m) = y at *
  clear hG
  have HB := hide hb
  clear hb
  obtain ⟨v0, v1⟩ := cells2 hx
  unfold pv
  go_enter Try.func20, Try.ntmps20
  go_wp2_with fail
  refine (unhide HF).mono ?_
  rintro e w1 ⟨rfl, hB⟩
  have hz1 := (Below.heap_alloc w1 (.cells #[I x.n, I x.top, I x.am, I x.an] 59) _ (by have := hB.size; omega)).trans ((hB.block _ (by omega)).trans hz)
  have hx1 := (Below.heap_alloc w1 (.cells #[I x.n, I x.top, I x.am, I x.an] 59) _ (by have := hB.size; omega)).trans ((hB.block _ (by omega)).trans hx)
  have hm1 : (w1.alloc (.cells #[I x.n, I x.top, I x.am, I x.an] 59)).heap[w1.heap.size]? = some (.cells #[I x.n, I x.top, I x.am, I x.an] 59) := putAll _ _ rfl
  have hB2 : Below w.heap.size w (w1.alloc (.cells #[I x.n, I x.top, I x.am, I x.an] 59)) := ((unhide HB).trans (hB.mono (by omega))).alloc (by have := hB.size; omega) _
  obtain ⟨W2, hW2⟩ : ∃ W2, w1.alloc (.cells #[I x.n, I x.top, I x.am, I x.an] 59) = W2 := ⟨_, rfl⟩
  rw [hW2] at hz1 hx1 hm1 hB2
  obtain ⟨p0, p1⟩ := cells2 hx1
  obtain ⟨l0, l1, l2, l3⟩ := cells4 hm1
  clear hV hs hx hz HB HF v0 v1
  have HB2 := hide hB2
  have Hz := hide hz1
  clear hB hB2 hz1 hx1 hm1
  unfold lv
  by_cases hc : y = true ∧ x.top = n
  · obtain ⟨rfl, rfl⟩ := hc
    obtain ⟨X1, X2, ⟨x1, x2⟩, ⟨c0, c1⟩, ⟨f0, f1⟩, q1, hfr, hsx⟩ := store2 (unhide Hz) (I x.am) (I x.an)
    obtain ⟨z0, z1⟩ := cells2 q1
    have HE := hide ((unhide HB2).trans (hfr.base (B := w.heap.size) (by exact (unhide HB2).size) (by simp)))
    clear hfr hsx q1 HB2 Hz
    go_wp2_with fail
    refine bodyPost_ret (v := .tuple #[.agg #[I x.am, I x.an], .bool true]) (by simp [results, Try.results20, go_sem, z0, z1]) rfl ?_
    refine ⟨?_, unhide HE⟩
    simp
  · have hc' : (y && decide (x.top = n)) = false := by
      cases y <;> simp_all
    obtain ⟨X1, X2, ⟨x1, x2⟩, ⟨c0, c1⟩, ⟨f0, f1⟩, q1, hfr, hsx⟩ := store2 (unhide Hz) (I m) (I n)
    obtain ⟨z0, z1⟩ := cells2 q1
    have HE := hide ((unhide HB2).trans (hfr.base (B := w.heap.size) (by exact (unhide HB2).size) (by simp)))
    have HC := hide hc'
    clear hfr hsx q1 HB2 Hz hc'
    cases y with
    | false =>
      clear hc
      go_wp2_with fail
      refine bodyPost_ret (v := .tuple #[.agg #[I m, I n], .bool false]) (by simp [results, Try.results20, go_sem, z0, z1]) rfl ?_
      refine ⟨?_, unhide HE⟩
      rfl
    | true =>
      have hc2 : ¬ x.top = n := fun h => hc ⟨rfl, h⟩
      clear hc
      go_wp2_with fail
      all_goals
        refine bodyPost_ret (v := .tuple #[.agg #[I m, I n], .bool false]) (by simp [results, Try.results20, go_sem, z0, z1]) rfl ?_
        exact ⟨rfl, unhide HE⟩
end Go.Proofs.Ythmpplcaomgdoaa.Mt
