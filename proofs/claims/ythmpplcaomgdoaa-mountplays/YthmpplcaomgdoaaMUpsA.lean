/-
  What lies while MountUps goes on: the places and the tops that were written down.
-/
import Derived.Test.YthmpplcaomgdoaaMDownW
import Derived.Test.YthmpplcaomgdoaaMCntW
import Derived.Test.YthmpplcaomgdoaaMXor
namespace Go.Proofs.Ythmpplcaomgdoaa.Mt
open Go.RowKit

theorem below_undrew {B : Nat} {u w : World} (h : Below B u.drew w) : Below B u w := ⟨h.os, h.tape, h.output, h.size, h.block⟩
def Z100 : Array Value := Array.replicate 100 (I 0)
def Z50 : Array Value := Array.replicate 50 (I 0)
theorem zeroA (w : World) : (zeroValue 53).run Try.prog w = .ok (.agg Z100) w := (zero_of_info (P := Try.prog) (t := 53) (v := .agg Z100) (n := 100) (by kernel_rfl)).1 w
theorem zeroN (w : World) : (zeroValue 54).run Try.prog w = .ok (.agg Z50) w := (zero_of_info (P := Try.prog) (t := 54) (v := .agg Z50) (n := 50) (by kernel_rfl)).1 w
/-- What was written down of each mount that is there. -/
structure UA (W : World) (A N : Nat) (es : Ents) : Prop where
  a : ∃ ca : Array Value, W.heap[A]? = some (.cells ca 53) ∧ ca.size = 100 ∧ ∀ p ∈ es, ca[p.n.toNat * 2]? = some (I p.am) ∧ ca[p.n.toNat * 2 + 1]? = some (I p.an)
  n : ∃ cn : Array Value, W.heap[N]? = some (.cells cn 54) ∧ cn.size = 50 ∧ ∀ p ∈ es, cn[p.n.toNat]? = some (I p.top)
theorem UA.same {W W' : World} {A N : Nat} {es : Ents} (u : UA W A N es) (h1 : W'.heap[A]? = W.heap[A]?) (h2 : W'.heap[N]? = W.heap[N]?) : UA W' A N es := by
  obtain ⟨ca, a1, a2, a3⟩ := u.a
  obtain ⟨cn, n1, n2, n3⟩ := u.n
  exact ⟨⟨ca, h1.trans a1, a2, a3⟩, ⟨cn, h2.trans n1, n2, n3⟩⟩
theorem UA.ltA {W : World} {A N : Nat} {es : Ents} (u : UA W A N es) : A < W.heap.size := by obtain ⟨ca, a1, _⟩ := u.a; exact lt_of_heap a1
theorem UA.ltN {W : World} {A N : Nat} {es : Ents} (u : UA W A N es) : N < W.heap.size := by obtain ⟨ca, a1, _⟩ := u.n; exact lt_of_heap a1
theorem UA.below {W W' : World} {A N : Nat} {es : Ents} (u : UA W A N es) (g : Below W.heap.size W W') : UA W' A N es := u.same (g.block A u.ltA) (g.block N u.ltN)
theorem UA.fm {W W' : World} {A N base b : Nat} {es : Ents} (u : UA W A N es) (f : Fm base b W W') (hA : A ≠ b) (hN : N ≠ b) : UA W' A N es := by
  obtain ⟨ca, a1, a2, a3⟩ := u.a
  obtain ⟨cn, n1, n2, n3⟩ := u.n
  exact u.same ((f.blk A _ a1 hA (by simp)).trans a1.symm) ((f.blk N _ n1 hN (by simp)).trans n1.symm)
/-- The whole state. -/
structure US (B : Int) (h : Nat) (w W : World) (pm pn : Int) (t : T) (A N : Nat) : Prop where
  s : DS B h w W pm pn t
  u : UA W A N t.es
  ha : h + 1 < A
  hn : h + 1 < N
  an : A ≠ N
section
variable {B B' : Int} {h : Nat} {w W W' : World} {pm pn : Int} {t t' : T} {A N : Nat}
theorem US.below (s : US B h w W pm pn t A N) (g : Below W.heap.size W W') : US B h w W' pm pn t A N := ⟨s.s.below g, s.u.below g, s.ha, s.hn, s.an⟩
theorem US.alloc (s : US B h w W pm pn t A N) (o : Obj) : US B h w (W.alloc o) pm pn t A N := s.below (below_alloc _ _)
theorem US.drew (s : US B h w W pm pn t A N) : US B h w W.drew pm pn t A N := s.below ⟨rfl, rfl, rfl, Nat.le_refl _, fun _ _ => rfl⟩
theorem US.mono (s : US B h w W pm pn t A N) (hB : B ≤ B') : US B' h w W pm pn t A N := ⟨s.s.mono hB, s.u, s.ha, s.hn, s.an⟩
/-- Bind, while a place lies in block y: the table behind it, what was written down as ahead. -/
theorem bind_U (s : US B h w W pm pn t A N) (hB : B < 1000000) (am an nd : Int) {y : Nat} {x0 x1 : Value} (hy : W.heap[y]? = some (.cells #[x0, x1] 29)) (hyh : h + 1 < y) {b o : Nat} {v : Value} (hb : b < h) (hc : W.cell? ⟨b, o, none⟩ = some v) :
    Calls Try.prog 10 #[.pointer (some ⟨h + 1, 0, none⟩), .agg #[I am, I an], I nd] W fun e w' => e = .returned (.tuple #[I (t.bindN am an), I (bindE t.es am an)]) ∧ (w'.cell? ⟨y, 0, none⟩ = some x0 ∧ w'.cell? ⟨y, 1, none⟩ = some x1 ∧ w'.cell? ⟨b, o, none⟩ = some v) ∧ Hid (DS (B + 1) h w w' pm pn (t.bind am an nd) ∧ UA w' A N t.es ∧ w'.heap[y]? = some (.cells #[x0, x1] 29)) := by
  refine (bind_Q s.s.q hB am an nd).mono ?_
  rintro e w' ⟨h1, h2, h3⟩
  have hy' : w'.heap[y]? = some (.cells #[x0, x1] 29) := h3.blk y _ hy (by omega) (by simp)
  obtain ⟨q0, q1⟩ := cells2 hy'
  exact ⟨h1, ⟨q0, q1, (World.cell?_of_block (h3.low b (by omega))).trans hc⟩, s.s.fm h2 h3, s.u.fm h3 (by have := s.ha; omega) (by have := s.hn; omega), hy'⟩
/-- A new mount is written down. -/
theorem UA.put {es : Ents} (u : UA W A N es) (p : Ld) (j : Nat) (hp : p.n = (j : Int)) (hj : j < 50) (hne : ∀ q ∈ es, 0 < q.n ∧ q.n ≠ p.n) (han : A ≠ N) :
    ∃ X1 X2 X3 : World, (W.setCell ⟨A, j * 2, none⟩ (I p.am) = X1 ∧ X1.setCell ⟨A, j * 2 + 1, none⟩ (I p.an) = X2 ∧ X2.setCell ⟨N, j, none⟩ (I p.top) = X3) ∧
      (∃ v0 v1 v2, W.cell? ⟨A, j * 2, none⟩ = some v0 ∧ X1.cell? ⟨A, j * 2 + 1, none⟩ = some v1 ∧ X2.cell? ⟨N, j, none⟩ = some v2) ∧
      (W.frozen? ⟨A, j * 2, none⟩ = false ∧ X1.frozen? ⟨A, j * 2 + 1, none⟩ = false ∧ X2.frozen? ⟨N, j, none⟩ = false) ∧ UA X3 A N (es ++ [p]) ∧ Fr [A, N] W X3 ∧ Fr [A] W X2 := by
  obtain ⟨ca, a1, a2, a3⟩ := u.a
  obtain ⟨cn, n1, n2, n3⟩ := u.n
  have hjp : p.n.toNat = j := by omega
  have h1 := heap_set a1 (j * 2) (I p.am)
  have h2 := heap_set h1 (j * 2 + 1) (I p.an)
  have hn2 : ((W.setCell ⟨A, j * 2, none⟩ (I p.am)).setCell ⟨A, j * 2 + 1, none⟩ (I p.an)).heap[N]? = some (.cells cn 54) :=
    (Below.heap_setCell _ _ _ _ (fun e => han e.symm)).trans ((Below.heap_setCell _ _ _ _ (fun e => han e.symm)).trans n1)
  have h3 := heap_set hn2 j (I p.top)
  have hA3 : (((W.setCell ⟨A, j * 2, none⟩ (I p.am)).setCell ⟨A, j * 2 + 1, none⟩ (I p.an)).setCell ⟨N, j, none⟩ (I p.top)).heap[A]? = _ := (Below.heap_setCell _ _ _ _ han).trans h2
  refine ⟨_, _, _, ⟨rfl, rfl, rfl⟩, ⟨ca[j * 2]'(by omega), ca[j * 2 + 1]'(by omega), cn[j]'(by omega), ?_, ?_, ?_⟩, ⟨frozen_of a1 _, frozen_of h1 _, frozen_of hn2 _⟩, ⟨⟨_, hA3, by simpa using a2, ?_⟩, ⟨_, h3, by simpa using n2, ?_⟩⟩, ?_, ?_⟩
  · rw [cell_of a1, Array.getElem?_eq_getElem (by omega)]
  · rw [cell_of h1, Array.getElem?_setIfInBounds_ne (by omega), Array.getElem?_eq_getElem (by omega)]
  · rw [cell_of hn2, Array.getElem?_eq_getElem (by omega)]
  · intro q hq
    rcases List.mem_append.1 hq with hq | hq
    · have := hne q hq
      have hqj : q.n.toNat ≠ j := by omega
      rw [Array.getElem?_setIfInBounds_ne (by omega), Array.getElem?_setIfInBounds_ne (by omega), Array.getElem?_setIfInBounds_ne (by omega), Array.getElem?_setIfInBounds_ne (by omega)]
      exact a3 q hq
    · simp at hq; subst hq
      rw [hjp, Array.getElem?_setIfInBounds_ne (by omega), Array.getElem?_setIfInBounds_self_of_lt (by omega), Array.getElem?_setIfInBounds_self_of_lt (by simp; omega)]
      exact ⟨rfl, rfl⟩
  · intro q hq
    rcases List.mem_append.1 hq with hq | hq
    · have := hne q hq
      rw [Array.getElem?_setIfInBounds_ne (by omega)]
      exact n3 q hq
    · simp at hq; subst hq
      rw [hjp, Array.getElem?_setIfInBounds_self_of_lt (by omega)]
  · exact (((Fr.refl [A, N] W).set (a := ⟨A, j * 2, none⟩) (by simp) _).set (a := ⟨A, j * 2 + 1, none⟩) (by simp) _).set (a := ⟨N, j, none⟩) (by simp) _
  · exact ((Fr.refl [A] W).set (a := ⟨A, j * 2, none⟩) (by simp) _).set (a := ⟨A, j * 2 + 1, none⟩) (by simp) _
end
/-- Up of a top, and of what is none. -/
theorem up_top {B : Int} {t : T} (h : Wf B t) {p : Ld} (hp : p ∈ t.es) : upM t.es p.n p.top = p.am ∧ upN t.es p.n p.top = p.an ∧ upIs t.es p.n p.top = true := by
  have hf := find_num h.rise hp
  have e1 : fst t.es (isN p.n) = p := by rw [fst, hf]; rfl
  have e2 : any t.es (isN p.n) = true := by rw [any, hf]; rfl
  have hu : upIs t.es p.n p.top = true := by simp [upIs, e1, e2]
  exact ⟨by rw [upM, hu, e1]; rfl, by rw [upN, hu, e1]; rfl, hu⟩
theorem up_not {B : Int} {t : T} (h : Wf B t) {p : Ld} (hp : p ∈ t.es) {n : Int} (hn : ¬ n = p.top) : upM t.es p.n n = p.n ∧ upN t.es p.n n = n ∧ upIs t.es p.n n = false := by
  have hf := find_num h.rise hp
  have e1 : fst t.es (isN p.n) = p := by rw [fst, hf]; rfl
  have hu : upIs t.es p.n n = false := by
    rw [upIs, e1]
    simp
    intro _ h
    exact hn h.symm
  exact ⟨by rw [upM, hu]; rfl, by rw [upN, hu]; rfl, hu⟩
theorem up_zero {B : Int} {t : T} (h : Wf B t) (n : Int) : upM t.es 0 n = 0 ∧ upN t.es 0 n = n ∧ upIs t.es 0 n = false := by
  have hu : upIs t.es 0 n = false := by
    have : any t.es (isN 0) = false := any_false.2 fun q hq => by
      have := h.num q hq
      simp [isN]; omega
    rw [upIs, this]; rfl
  exact ⟨by rw [upM, hu]; rfl, by rw [upN, hu]; rfl, hu⟩
theorem lst_of {t : T} {x : Int} {i : Nat} (h : (lst t.es)[i]? = some x) (h0 : x ≠ 0) : ∃ p ∈ t.es, p.n = x := by
  have := List.mem_of_getElem? h
  rw [lst, List.mem_cons] at this
  rcases this with e | e
  · exact absurd e h0
  · obtain ⟨p, hp, e⟩ := List.mem_map.1 e
    exact ⟨p, hp, e⟩
section
variable {B : Int} {h : Nat} {w W : World} {pm pn : Int} {t : T} {A N : Nat}
/-- Up, while two cells are looked at. -/
theorem up_P (s : US B h w W pm pn t A N) (m n m' n' : Int) (y : Bool) (h1 : upM t.es m n = m') (h2 : upN t.es m n = n') (h3 : upIs t.es m n = y) {g1 o1 g2 o2 : Nat} {v1 v2 : Value} (c1 : W.cell? ⟨g1, o1, none⟩ = some v1) (c2 : W.cell? ⟨g2, o2, none⟩ = some v2) :
    Calls Try.prog 20 #[.pointer (some ⟨h + 1, 0, none⟩), .agg #[I m, I n]] W fun e w' => e = .returned (.tuple #[.agg #[I m', I n'], .bool y]) ∧ (w'.cell? ⟨g1, o1, none⟩ = some v1 ∧ w'.cell? ⟨g2, o2, none⟩ = some v2) ∧ Hid (Below W.heap.size W w') := by
  refine (up_R s.s.q m n m' n' y h1 h2 h3).mono ?_
  rintro e w' ⟨e1, _, hB⟩
  exact ⟨e1, ⟨(World.cell?_of_block (hB.block g1 (lt_of_cell c1))).trans c1, (World.cell?_of_block (hB.block g2 (lt_of_cell c2))).trans c2⟩, hB⟩
/-- The same behind a place that was laid ahead, into which the answer goes. -/
theorem up_PA (s : US B h w W pm pn t A N) (q : Nat) (hq : W.heap.size = q) (m n m' n' : Int) (y : Bool) (h1 : upM t.es m n = m') (h2 : upN t.es m n = n') (h3 : upIs t.es m n = y) {g1 o1 g2 o2 : Nat} {v1 v2 : Value} (c1 : W.cell? ⟨g1, o1, none⟩ = some v1) (c2 : W.cell? ⟨g2, o2, none⟩ = some v2) :
    Calls Try.prog 20 #[.pointer (some ⟨h + 1, 0, none⟩), .agg #[I m, I n]] (W.alloc (.cells #[I 0, I 0] 29)) fun e w' => e = .returned (.tuple #[.agg #[I m', I n'], .bool y]) ∧ (w'.cell? ⟨g1, o1, none⟩ = some v1 ∧ w'.cell? ⟨g2, o2, none⟩ = some v2) ∧
      ∃ X1 X2 : World, (w'.setCell ⟨q, 0, none⟩ (I m') = X1 ∧ X1.setCell ⟨q, 1, none⟩ (I n') = X2) ∧ (w'.cell? ⟨q, 0, none⟩ = some (I 0) ∧ X1.cell? ⟨q, 1, none⟩ = some (I 0)) ∧ (w'.frozen? ⟨q, 0, none⟩ = false ∧ X1.frozen? ⟨q, 1, none⟩ = false) ∧
      (X2.cell? ⟨g1, o1, none⟩ = some v1 ∧ X2.cell? ⟨g2, o2, none⟩ = some v2) ∧ Hid (X2.heap[q]? = some (.cells #[I m', I n'] 29) ∧ Below W.heap.size W X2) := by
  subst hq
  refine (up_P (s.alloc (.cells #[I 0, I 0] 29)) m n m' n' y h1 h2 h3 (cell_alloc c1 _) (cell_alloc c2 _)).mono ?_
  rintro e w' ⟨e1, e2, hB⟩
  have hy := ((unhide hB).block W.heap.size (by simp)).trans (putAll (w := W) (.cells #[I 0, I 0] 29) _ rfl)
  obtain ⟨X1, X2, x, c, f, hX, hfr, _⟩ := store2 hy (I m') (I n')
  have hBX : Below W.heap.size W X2 := (below_alloc W (.cells #[I 0, I 0] 29)).trans (((unhide hB).mono (by simp)).trans (hfr.base (by have := (unhide hB).size; simp at this; omega) (by simp)))
  exact ⟨e1, e2, X1, X2, x, c, f, ⟨(World.cell?_of_block (hBX.block g1 (lt_of_cell c1))).trans c1, (World.cell?_of_block (hBX.block g2 (lt_of_cell c2))).trans c2⟩, hX, hBX⟩
/-- The mount of p is set to 0. -/
theorem US.set0 (s : US B h w W pm pn t A N) : DS B h w (W.setCell ⟨h, 0, none⟩ (I 0)) 0 pn t := by
  have hk : ∀ k, k ≠ h → (W.setCell ⟨h, 0, none⟩ (I 0)).heap[k]? = W.heap[k]? := fun k hk => Below.heap_setCell _ _ _ _ hk
  refine ⟨s.s.q.fm fun k cur ty hc ht => hk k ?_, ?_, s.s.be.setCell (p := ⟨h, 0, none⟩) (Nat.le_refl _) _⟩
  · rintro rfl
    rw [s.s.p] at hc
    simp at hc
    rcases ht with e | e
    · omega
    · rw [e] at hc; simp at hc
  · rw [heap_set s.s.p 0 (I 0)]; simp
end
end Go.Proofs.Ythmpplcaomgdoaa.Mt
