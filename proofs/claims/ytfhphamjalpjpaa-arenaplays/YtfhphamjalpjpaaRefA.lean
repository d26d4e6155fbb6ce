/-
  The document's own arena: its struct, generations, numbers and free slots in their turn; what a walk is told of them, what a store leaves; the contract of check.
-/
import Derived.Test.YtfhphamjalpjpaaElderB
namespace Go.Proofs.Ytfhphamjalpjpaa
open Go.RowKit
attribute [local go_sem ↓] Go.wp_at_zero Go.wp_at_succ

/-- What lay below B lies as it lay, and so does every row of handles and every ask. -/
structure FrS (B : Nat) (W W' : World) : Prop where
  be : Below B W W'
  hk : ∀ (k : Nat) (cur : Array Value) (t : TypeId), t = 29 ∨ t = 43 → W.heap[k]? = some (Obj.cells cur t (0, 0)) → W'.heap[k]? = W.heap[k]?
theorem FrS.refl (B : Nat) (W : World) : FrS B W W := ⟨Below.refl _ _, fun _ _ _ _ _ => rfl⟩
theorem FrS.trans {B : Nat} {U V W : World} (h : FrS B U V) (g : FrS B V W) : FrS B U W := ⟨h.be.trans g.be, fun k cur t ht hc => (g.hk k cur t ht ((h.hk k cur t ht hc).trans hc)).trans (h.hk k cur t ht hc)⟩
theorem FrS.of_below {B : Nat} {W W' : World} (h : Below W.heap.size W W') (hB : B ≤ W.heap.size) : FrS B W W' := ⟨h.mono hB, fun k _ _ _ hc => h.block k (lt_of_heap hc)⟩
theorem FrS.set {B : Nat} {U W : World} (h : FrS B U W) {p : Addr} (hB : B ≤ p.block) {cur : Array Value} {t : TypeId} (ho : W.heap[p.block]? = some (.cells cur t (0, 0))) (ht : t ≠ 29 ∧ t ≠ 43) (v : Value) : FrS B U (W.setCell p v) := by
  refine ⟨h.be.setCell hB v, fun k c t' ht' hc => ?_⟩
  have h1 := h.hk k c t' ht' hc
  rw [Below.heap_setCell _ _ _ _ ?_, h1]
  rintro rfl
  rw [h1, hc] at ho
  simp at ho
  rcases ht' with rfl | rfl
  · exact ht.1 ho.2.symm
  · exact ht.2 ho.2.symm
theorem FrS.dn {B : Nat} {U W : World} (h : FrS B U W) (m : Nat) : FrS B U (W.drewN m) := ⟨below_dn h.be m, h.hk⟩
theorem FrS.drew {B : Nat} {U W : World} (h : FrS B U W) : FrS B U W.drew := ⟨⟨h.be.os, h.be.tape, h.be.output, h.be.size, h.be.block⟩, h.hk⟩
theorem FrS.grown {B : Nat} {U W W' : World} {e : TypeId} {s m : Nat} {v : Value} {xs : List Value} (h : FrS B U W) (r : Rw B W e s v m xs) (g : W.grownBy W' v.ownBlock) (he : e ≠ 29 ∧ e ≠ 43) (hB : B ≤ W.heap.size) : FrS B U W' := by
  refine ⟨below_grownR h.be r g hB, fun k c t' ht' hc => ?_⟩
  have h1 := h.hk k c t' ht' hc
  rw [g.block k (lt_of_heap (h1.trans hc)) (r.ne (h1.trans hc) (by intro cur e'; simp at e'; rcases ht' with rfl | rfl; exact he.1 e'.2.symm; exact he.2 e'.2.symm)), h1]

abbrev gens (gs : List Slot) : List Value := gs.map (fun s => Value.int .i64 s.1)
abbrev numbs (gs : List Slot) : List Value := gs.map (fun s => Value.int .i64 s.2)
structure RA (B : Nat) (W : World) (rb gb vb n : Nat) (gs : List Slot) (q : List Nat) (tv : Value) (st : Int) : Prop where
  hb : W.heap[rb]? = some (.cells #[.slice (some ⟨gb, 0, none⟩) n n, .slice (some ⟨vb, 0, none⟩) n n, tv, .int .i64 st] 55)
  hg : W.heap[gb]? = some (.cells (gens gs).toArray 2)
  hv : W.heap[vb]? = some (.cells (numbs gs).toArray 2)
  ht : Rw B W 3 1 tv q.length (nums q)
  len : gs.length = n
  ne : gb ≠ vb
  lo : B ≤ rb ∧ B ≤ gb ∧ B ≤ vb
  n64 : n ≤ 64
  ql : q.length ≤ n
theorem RA.lt {B : Nat} {W : World} {rb gb vb n : Nat} {gs : List Slot} {q : List Nat} {tv : Value} {st : Int} (h : RA B W rb gb vb n gs q tv st) : rb < W.heap.size ∧ gb < W.heap.size ∧ vb < W.heap.size := ⟨lt_of_heap h.hb, lt_of_heap h.hg, lt_of_heap h.hv⟩
theorem RA.apart {B : Nat} {W : World} {rb gb vb n : Nat} {gs : List Slot} {q : List Nat} {tv : Value} {st : Int} (h : RA B W rb gb vb n gs q tv st) : rb ≠ gb ∧ rb ≠ vb := by
  constructor
  · rintro rfl; have := h.hb; rw [h.hg] at this; simp at this
  · rintro rfl; have := h.hb; rw [h.hv] at this; simp at this
theorem RA.of {B : Nat} {W W' : World} {rb gb vb n : Nat} {gs : List Slot} {q : List Nat} {tv : Value} {st : Int} (h : RA B W rb gb vb n gs q tv st) (hk : ∀ k (o : Obj), B ≤ k → W.heap[k]? = some o → (∀ cur, o ≠ .cells cur 29 (0, 0)) → W'.heap[k]? = W.heap[k]?) : RA B W' rb gb vb n gs q tv st :=
  ⟨(hk _ _ h.lo.1 h.hb (by simp)).trans h.hb, (hk _ _ h.lo.2.1 h.hg (by simp)).trans h.hg, (hk _ _ h.lo.2.2 h.hv (by simp)).trans h.hv, h.ht.keep (fun k cur e hc => hk k _ (h.ht.lt e).2.1 hc (by simp)), h.len, h.ne, h.lo, h.n64, h.ql⟩
theorem RA.below {B : Nat} {W W' : World} {rb gb vb n : Nat} {gs : List Slot} {q : List Nat} {tv : Value} {st : Int} (h : RA B W rb gb vb n gs q tv st) (g : Below W.heap.size W W') : RA B W' rb gb vb n gs q tv st := h.of fun k _ _ hc _ => g.block k (lt_of_heap hc)
theorem RA.dn {B : Nat} {W : World} {rb gb vb n : Nat} {gs : List Slot} {q : List Nat} {tv : Value} {st : Int} (h : RA B W rb gb vb n gs q tv st) (m : Nat) : RA B (W.drewN m) rb gb vb n gs q tv st := h.of fun _ _ _ _ _ => rfl
theorem RA.drew {B : Nat} {W : World} {rb gb vb n : Nat} {gs : List Slot} {q : List Nat} {tv : Value} {st : Int} (h : RA B W rb gb vb n gs q tv st) : RA B W.drew rb gb vb n gs q tv st := h.of fun _ _ _ _ _ => rfl
theorem RA.fr {B : Nat} {W W' : World} {rb gb vb n : Nat} {gs : List Slot} {q : List Nat} {tv : Value} {st : Int} {b c d : Nat} (h : RA B W rb gb vb n gs q tv st) (g : Fr b c d W W') (hb : b < B) (hc : c < B) (hd : d < B) : RA B W' rb gb vb n gs q tv st :=
  h.of fun k _ hk hc' _ => g.block k (lt_of_heap hc') (by omega) (by omega) (by omega)
theorem RA.grown {B base : Nat} {W W' : World} {rb gb vb n : Nat} {gs : List Slot} {q : List Nat} {tv v : Value} {st : Int} {xs : List Slot} (h : RA B W rb gb vb n gs q tv st) (r : Hs base W v xs) (g : W.grownBy W' v.ownBlock) : RA B W' rb gb vb n gs q tv st :=
  h.of fun k _ _ hc hne => g.block k (lt_of_heap hc) (r.ne hc hne)
theorem RA.cells {B : Nat} {W : World} {rb gb vb n : Nat} {gs : List Slot} {q : List Nat} {tv : Value} {st : Int} (h : RA B W rb gb vb n gs q tv st) :
    W.cell? ⟨rb, 0, none⟩ = some (.slice (some ⟨gb, 0, none⟩) n n) ∧ W.cell? ⟨rb, 1, none⟩ = some (.slice (some ⟨vb, 0, none⟩) n n) ∧ W.cell? ⟨rb, 2, none⟩ = some tv ∧ W.cell? ⟨rb, 3, none⟩ = some (.int .i64 st) ∧ ∀ i, W.frozen? ⟨rb, i, none⟩ = false := by
  refine ⟨?_, ?_, ?_, ?_, frozen_of h.hb⟩ <;> rw [cell_of h.hb] <;> rfl
theorem RA.slot {B : Nat} {W : World} {rb gb vb n : Nat} {gs : List Slot} {q : List Nat} {tv : Value} {st : Int} (h : RA B W rb gb vb n gs q tv st) {k : Nat} {g v : Int} (hk : gs[k]? = some (g, v)) :
    W.cell? ⟨gb, k, none⟩ = some (.int .i64 g) ∧ W.cell? ⟨vb, k, none⟩ = some (.int .i64 v) ∧ (∀ i, W.frozen? ⟨gb, i, none⟩ = false) ∧ (∀ i, W.frozen? ⟨vb, i, none⟩ = false) ∧ k < n := by
  refine ⟨?_, ?_, frozen_of h.hg, frozen_of h.hv, by have := (List.getElem?_eq_some_iff.1 hk).1; rw [← h.len]; exact this⟩
  · rw [cell_of h.hg]; simp [hk]
  · rw [cell_of h.hv]; simp [hk]

/-- Stores into the document's own blocks. -/
theorem RA.setGen {B : Nat} {W : World} {rb gb vb n : Nat} {gs : List Slot} {q : List Nat} {tv : Value} {st : Int} (h : RA B W rb gb vb n gs q tv st) {k : Nat} {g v : Int} (hk : gs[k]? = some (g, v)) (g' : Int) : RA B (W.setCell ⟨gb, k, none⟩ (.int .i64 g')) rb gb vb n (gs.set k (g', v)) q tv st := by
  obtain ⟨a1, a2⟩ := h.apart
  have en : numbs (gs.set k (g', v)) = numbs gs := by
    unfold numbs
    rw [List.map_set]
    apply List.ext_getElem?
    intro i
    by_cases e : k = i
    · subst e; rw [List.getElem?_set_self (by simpa using (List.getElem?_eq_some_iff.1 hk).1)]; simp [hk]
    · rw [List.getElem?_set_ne e]
  refine ⟨(Below.heap_setCell _ _ _ _ a1).trans h.hb, ?_, ?_, h.ht.keep (fun j cur e hc => Below.heap_setCell _ _ _ _ (by rintro rfl; rw [h.hg] at hc; simp at hc)), by simp [h.len], h.ne, h.lo, h.n64, h.ql⟩
  · rw [heap_set h.hg]; simp [gens, List.map_set]
  · rw [en]; exact (Below.heap_setCell _ _ _ _ (Ne.symm h.ne)).trans h.hv
theorem RA.setVal {B : Nat} {W : World} {rb gb vb n : Nat} {gs : List Slot} {q : List Nat} {tv : Value} {st : Int} (h : RA B W rb gb vb n gs q tv st) {k : Nat} {g v : Int} (hk : gs[k]? = some (g, v)) (v' : Int) : RA B (W.setCell ⟨vb, k, none⟩ (.int .i64 v')) rb gb vb n (gs.set k (g, v')) q tv st := by
  obtain ⟨a1, a2⟩ := h.apart
  have en : gens (gs.set k (g, v')) = gens gs := by
    unfold gens
    rw [List.map_set]
    apply List.ext_getElem?
    intro i
    by_cases e : k = i
    · subst e; rw [List.getElem?_set_self (by simpa using (List.getElem?_eq_some_iff.1 hk).1)]; simp [hk]
    · rw [List.getElem?_set_ne e]
  refine ⟨(Below.heap_setCell _ _ _ _ a2).trans h.hb, ?_, ?_, h.ht.keep (fun j cur e hc => Below.heap_setCell _ _ _ _ (by rintro rfl; rw [h.hv] at hc; simp at hc)), by simp [h.len], h.ne, h.lo, h.n64, h.ql⟩
  · rw [en]; exact (Below.heap_setCell _ _ _ _ h.ne).trans h.hg
  · rw [heap_set h.hv]; simp [numbs, List.map_set]
theorem RA.setStale {B : Nat} {W : World} {rb gb vb n : Nat} {gs : List Slot} {q : List Nat} {tv : Value} {st : Int} (h : RA B W rb gb vb n gs q tv st) (st' : Int) : RA B (W.setCell ⟨rb, 3, none⟩ (.int .i64 st')) rb gb vb n gs q tv st' := by
  obtain ⟨a1, a2⟩ := h.apart
  exact ⟨heap_set h.hb 3 _, (Below.heap_setCell _ _ _ _ (Ne.symm a1)).trans h.hg, (Below.heap_setCell _ _ _ _ (Ne.symm a2)).trans h.hv, h.ht.keep (fun j cur e hc => Below.heap_setCell _ _ _ _ (by rintro rfl; rw [h.hb] at hc; simp at hc)), h.len, h.ne, h.lo, h.n64, h.ql⟩
theorem RA.setTurn {B : Nat} {W : World} {rb gb vb n : Nat} {gs : List Slot} {q q' : List Nat} {tv tv' : Value} {st : Int} (h : RA B W rb gb vb n gs q tv st) (ht : Rw B W 3 1 tv' q'.length (nums q')) (hq : q'.length ≤ n) : RA B (W.setCell ⟨rb, 2, none⟩ tv') rb gb vb n gs q' tv' st := by
  obtain ⟨a1, a2⟩ := h.apart
  exact ⟨heap_set h.hb 2 _, (Below.heap_setCell _ _ _ _ (Ne.symm a1)).trans h.hg, (Below.heap_setCell _ _ _ _ (Ne.symm a2)).trans h.hv, ht.keep (fun j cur e hc => Below.heap_setCell _ _ _ _ (by rintro rfl; rw [h.hb] at hc; simp at hc)), h.len, h.ne, h.lo, h.n64, hq⟩

set_option maxRecDepth 100000 in
set_option maxHeartbeats 1000000 in
theorem check_arg (B rb gb vb n : Nat) (gs : List Slot) (q : List Nat) (tv : Value) (st s x : Int) (w : World) (h : RA B w rb gb vb n gs q tv st) (hs : s < 0 ∨ (n : Int) ≤ s) :
    Calls Try.prog 29 #[.pointer (some ⟨rb, 0, none⟩), .agg #[.int .i64 s, .int .i64 x]] w fun e w' => e = .returned (.int .i64 1) ∧ Below w.heap.size w w' := by
  obtain ⟨V, hV, v0, v1, vf, hB, hz⟩ := boxed w s x 44
  obtain ⟨h0, h1, h2, h3, hf⟩ := (h.below hB).cells
  clear h
  go_enter Try.func29, Try.ntmps29
  go_wp2_with fail
  clear hV
  by_cases hs0 : s < 0
  · clear hs
    go_quiet (fail)
    go_wp2_with fail
    go_ret
    exact ⟨rfl, below_dn hB _⟩
  · have hn : (n : Int) ≤ s := by omega
    clear hs
    go_quiet (fail)
    go_wp2_with fail
    go_ret
    exact ⟨rfl, below_dn hB _⟩

/-- What check is told of the document's arena, a slot and a handle in a box. -/
structure FR (w U : World) (B rb gb vb n k : Nat) (gs : List Slot) (q : List Nat) (tv : Value) (st g x : Int) : Prop where
  ra : RA B U rb gb vb n gs q tv st
  be : Below w.heap.size w U
  v0 : U.cell? ⟨w.heap.size, 0, none⟩ = some (.int .i64 (k : Int))
  v1 : U.cell? ⟨w.heap.size, 1, none⟩ = some (.int .i64 x)
  h0 : U.cell? ⟨rb, 0, none⟩ = some (.slice (some ⟨gb, 0, none⟩) n n)
  h3 : U.cell? ⟨rb, 3, none⟩ = some (.int .i64 st)
  hf : ∀ i, U.frozen? ⟨rb, i, none⟩ = false
  s0 : U.cell? ⟨gb, k, none⟩ = some (.int .i64 g)
theorem FR.dn {w U : World} {B rb gb vb n k : Nat} {gs : List Slot} {q : List Nat} {tv : Value} {st g x : Int} (h : FR w U B rb gb vb n k gs q tv st g x) (m : Nat) : ∃ U', U.drewN m = U' ∧ FR w U' B rb gb vb n k gs q tv st g x :=
  ⟨_, rfl, h.ra.dn m, below_dn h.be m, h.v0, h.v1, h.h0, h.h3, h.hf, h.s0⟩
theorem fr_box {w : World} {B rb gb vb n k : Nat} {gs : List Slot} {q : List Nat} {tv : Value} {st g v : Int} (x : Int) (h : RA B w rb gb vb n gs q tv st) (hk : gs[k]? = some (g, v)) : ∃ V, w.alloc (.cells #[.int .i64 (k : Int), .int .i64 x] 44) = V ∧ FR w V B rb gb vb n k gs q tv st g x := by
  obtain ⟨V, hV, v0, v1, vf, hB, hz⟩ := boxed w (k : Int) x 44
  have hA := h.below hB
  obtain ⟨h0, h1, h2, h3, hf⟩ := hA.cells
  obtain ⟨s0, -, -, -, -⟩ := hA.slot hk
  exact ⟨V, hV, hA, hB, v0, v1, h0, h3, hf, s0⟩

set_option maxRecDepth 100000 in
set_option maxHeartbeats 1000000 in
theorem check_gone1 (B rb gb vb n k : Nat) (gs : List Slot) (q : List Nat) (tv : Value) (st g v x : Int) (w : World) (h : RA B w rb gb vb n gs q tv st) (hk : gs[k]? = some (g, v)) (hx : ¬ x.tmod 2 = 1) (s0' : 0 ≤ st) (s1' : st ≤ 1000000) (hB : B ≤ w.heap.size) :
    Calls Try.prog 29 #[.pointer (some ⟨rb, 0, none⟩), .agg #[.int .i64 (k : Int), .int .i64 x]] w fun e w' => e = .returned (.int .i64 14) ∧ RA B w' rb gb vb n gs q tv (st + 1) ∧ FrS B w w' := by
  obtain ⟨V, hV, f1⟩ := fr_box x h hk
  have k1 : k < n := (h.slot hk).2.2.2.2
  have k2 : (k : Int) < (n : Int) := by omega
  have k3 : (0 : Int) ≤ (k : Int) := by omega
  have k4 : ((n : Int) ≤ (k : Int)) = False := by simp; omega
  have k5 : (n ≤ k) = False := by simp; omega
  have v0 := f1.v0
  have h0 := f1.h0
  have hlo := h.lo.1
  clear h hk
  go_enter Try.func29, Try.ntmps29
  go_wp2_with fail
  clear hV
  go_quiet (fail)
  go_wp2_with fail
  obtain ⟨V2, e2, f2⟩ := f1.dn nq
  rw [e2]
  clear e2 f1 v0 h0
  have v1 := f2.v1
  have h0 := f2.h0
  have h3 := f2.h3
  have hf := f2.hf
  go_quiet (fail)
  go_wp2_with fail
  go_ret
  exact ⟨rfl, (f2.ra.dn _).setStale _, ((FrS.of_below f2.be hB).dn _).set (p := ⟨rb, 3, none⟩) hlo f2.ra.hb (by decide) _⟩

set_option maxRecDepth 100000 in
set_option maxHeartbeats 1000000 in
theorem check_gone2 (B rb gb vb n k : Nat) (gs : List Slot) (q : List Nat) (tv : Value) (st g v x : Int) (w : World) (h : RA B w rb gb vb n gs q tv st) (hk : gs[k]? = some (g, v)) (hx : x.tmod 2 = 1) (hgx : ¬ g = x) (s0' : 0 ≤ st) (s1' : st ≤ 1000000) (hB : B ≤ w.heap.size) :
    Calls Try.prog 29 #[.pointer (some ⟨rb, 0, none⟩), .agg #[.int .i64 (k : Int), .int .i64 x]] w fun e w' => e = .returned (.int .i64 14) ∧ RA B w' rb gb vb n gs q tv (st + 1) ∧ FrS B w w' := by
  obtain ⟨V, hV, f1⟩ := fr_box x h hk
  have k1 : k < n := (h.slot hk).2.2.2.2
  have k2 : (k : Int) < (n : Int) := by omega
  have k3 : (0 : Int) ≤ (k : Int) := by omega
  have k4 : ((n : Int) ≤ (k : Int)) = False := by simp; omega
  have k5 : (n ≤ k) = False := by simp; omega
  have v0 := f1.v0
  have h0 := f1.h0
  have hlo := h.lo.1
  clear h hk
  go_enter Try.func29, Try.ntmps29
  go_wp2_with fail
  clear hV
  go_quiet (fail)
  go_wp2_with fail
  obtain ⟨V2, e2, f2⟩ := f1.dn nq
  rw [e2]
  clear e2 f1 v0 h0
  have v0 := f2.v0
  have v1 := f2.v1
  have h0 := f2.h0
  have h3 := f2.h3
  have hf := f2.hf
  have s0 := f2.s0
  go_quiet (fail)
  go_wp2_with fail
  go_ret
  exact ⟨rfl, (f2.ra.dn _).setStale _, ((FrS.of_below f2.be hB).dn _).set (p := ⟨rb, 3, none⟩) hlo f2.ra.hb (by decide) _⟩

set_option maxRecDepth 100000 in
set_option maxHeartbeats 1000000 in
theorem check_ok (B rb gb vb n k : Nat) (gs : List Slot) (q : List Nat) (tv : Value) (st g v : Int) (w : World) (h : RA B w rb gb vb n gs q tv st) (hk : gs[k]? = some (g, v)) (g0 : 0 ≤ g) (g1 : g % 2 = 1) :
    Calls Try.prog 29 #[.pointer (some ⟨rb, 0, none⟩), .agg #[.int .i64 (k : Int), .int .i64 g]] w fun e w' => e = .returned (.int .i64 0) ∧ Below w.heap.size w w' := by
  obtain ⟨V, hV, f1⟩ := fr_box g h hk
  have k1 : k < n := (h.slot hk).2.2.2.2
  have k2 : (k : Int) < (n : Int) := by omega
  have k3 : (0 : Int) ≤ (k : Int) := by omega
  have k4 : ((n : Int) ≤ (k : Int)) = False := by simp; omega
  have k5 : (n ≤ k) = False := by simp; omega
  have t : g.tmod 2 = 1 := by rw [Int.tmod_eq_emod_of_nonneg g0]; exact g1
  have v0 := f1.v0
  have h0 := f1.h0
  clear h hk g0 g1
  go_enter Try.func29, Try.ntmps29
  go_wp2_with fail
  clear hV
  go_quiet (fail)
  go_wp2_with fail
  obtain ⟨V2, e2, f2⟩ := f1.dn nq
  rw [e2]
  clear e2 f1 v0 h0
  have v0 := f2.v0
  have v1 := f2.v1
  have h0 := f2.h0
  have s0 := f2.s0
  go_quiet (fail)
  go_wp2_with fail
  go_ret
  exact ⟨rfl, below_dn f2.be _⟩

theorem check_bad (B rb gb vb n : Nat) (gs : List Slot) (q : List Nat) (tv : Value) (st s x er m : Int) (w : World) (h : RA B w rb gb vb n gs q tv st) (hbad : Bad gs s x er m) (s0 : 0 ≤ st) (s1 : st ≤ 1000000) (hB : B ≤ w.heap.size) :
    Calls Try.prog 29 #[.pointer (some ⟨rb, 0, none⟩), .agg #[.int .i64 s, .int .i64 x]] w fun e w' => e = .returned (.int .i64 er) ∧ RA B w' rb gb vb n gs q tv (st + m) ∧ FrS B w w' := by
  rcases hbad with ⟨rfl, rfl, hs⟩ | ⟨rfl, rfl, k, g, v, rfl, hk, g0, g1⟩
  · refine (check_arg B rb gb vb n gs q tv st s x w h (by rw [← h.len]; exact hs)).mono ?_
    rintro e w' ⟨rfl, hB'⟩
    exact ⟨rfl, by rw [Int.add_zero]; exact h.below hB', .of_below hB' hB⟩
  · by_cases hx : x.tmod 2 = 1
    · refine check_gone2 B rb gb vb n k gs q tv st g v x w h hk hx ?_ s0 s1 hB
      rintro rfl
      rw [Int.tmod_eq_emod_of_nonneg g0] at hx
      exact g1 ⟨hx, rfl⟩
    · exact check_gone1 B rb gb vb n k gs q tv st g v x w h hk hx s0 s1 hB
end Go.Proofs.Ytfhphamjalpjpaa
