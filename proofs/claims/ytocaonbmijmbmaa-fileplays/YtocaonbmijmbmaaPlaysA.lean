/-
  Both tables side by side, and the call that both are asked, in a block of its own.
-/
import Derived.Test.YtocaonbmijmbmaaRefD
import Derived.Test.YtocaonbmijmbmaaIn
namespace Go.Proofs.Ytocaonbmijmbmaa
open Go.RowKit Go.Shelf

/-- The program's table in block b, the document's in r; es are open in both; what lay below B lies as it lay. -/
structure PW (B b r n : Nat) (w W : World) (es : List Op) : Prop where
  tb : Tb W b n es
  rt : ∃ F G, Rt W r n F G ∧ RL es F G
  wf : Wf es
  be : Below B w W
  ne : b ≠ r
  lo : B ≤ b ∧ B ≤ r
theorem PW.lt {B b r n : Nat} {w W : World} {es : List Op} (h : PW B b r n w W es) : b < W.heap.size ∧ r < W.heap.size ∧ B ≤ W.heap.size := by
  obtain ⟨F, G, hr, -⟩ := h.rt
  have h1 := h.tb.lt
  have h2 := hr.lt
  have := h.lo
  exact ⟨h1, h2, by omega⟩
theorem PW.below {B b r n : Nat} {w W W' : World} {es : List Op} (h : PW B b r n w W es) (g : Below W.heap.size W W') : PW B b r n w W' es := by
  obtain ⟨F, G, hr, hl⟩ := h.rt
  exact ⟨h.tb.below g, ⟨F, G, hr.below g, hl⟩, h.wf, h.be.trans (g.mono h.lt.2.2), h.ne, h.lo⟩
theorem PW.alloc {B b r n : Nat} {w W : World} {es : List Op} (h : PW B b r n w W es) (o : Obj) : PW B b r n w (W.alloc o) es := h.below ((Below.refl _ W).alloc (Nat.le_refl _) o)
theorem PW.drew {B b r n : Nat} {w W : World} {es : List Op} (h : PW B b r n w W es) : PW B b r n w W.drew es := h.below (below_d (Below.refl _ _))
/-- Between the two calls: the program's table is told already, the document's not yet. -/
structure PM (B b r n : Nat) (w W : World) (es es' : List Op) : Prop where
  tb : Tb W b n es'
  rt : ∃ F G, Rt W r n F G ∧ RL es F G
  wf : Wf es
  be : Below B w W
  ne : b ≠ r
  lo : B ≤ b ∧ B ≤ r
  ln : es.length ≤ n ∧ n ≤ 64
theorem PW.first {B b r n : Nat} {w W W' : World} {es es' : List Op} (h : PW B b r n w W es) (t : Tb W' b n es') (f : Fr b W W') : PM B b r n w W' es es' := by
  obtain ⟨F, G, hr, hl⟩ := h.rt
  exact ⟨t, ⟨F, G, hr.fr f (Ne.symm h.ne), hl⟩, h.wf, h.be.trans (f.below h.lo.1 h.lt.2.2), h.ne, h.lo, h.tb.le, h.tb.n64⟩
theorem PM.below {B b r n : Nat} {w W W' : World} {es es' : List Op} (h : PM B b r n w W es es') (g : Below W.heap.size W W') : PM B b r n w W' es es' := by
  obtain ⟨F, G, hr, hl⟩ := h.rt
  exact ⟨h.tb.below g, ⟨F, G, hr.below g, hl⟩, h.wf, h.be.trans (g.mono (by have := h.tb.lt; have := h.lo; omega)), h.ne, h.lo, h.ln⟩
theorem PM.second {B b r n : Nat} {w W W' : World} {es es' : List Op} (h : PM B b r n w W es es') (t : ∃ F G, Rt W' r n F G ∧ RL es' F G) (f : Fr r W W') (wf : Wf es') : PW B b r n w W' es' :=
  ⟨h.tb.fr f h.ne, t, wf, h.be.trans (f.below h.lo.2 (by have := h.tb.lt; have := h.lo; omega)), h.ne, h.lo⟩
/-- The call that is asked. -/
abbrev askO (kd p d f s m k : Int) : Obj := .cells #[I kd, I p, I d, I f, I s, I m, I k] 44
theorem cells7 {W : World} {y : Nat} {kd p d f s m k : Int} (h : W.heap[y]? = some (askO kd p d f s m k)) :
    W.cell? ⟨y, 0, none⟩ = some (I kd) ∧ W.cell? ⟨y, 1, none⟩ = some (I p) ∧ W.cell? ⟨y, 2, none⟩ = some (I d) ∧ W.cell? ⟨y, 3, none⟩ = some (I f) ∧ W.cell? ⟨y, 4, none⟩ = some (I s) ∧ W.cell? ⟨y, 5, none⟩ = some (I m) ∧ W.cell? ⟨y, 6, none⟩ = some (I k) := by
  refine ⟨?_, ?_, ?_, ?_, ?_, ?_, ?_⟩ <;> rw [cell_of h] <;> rfl
theorem ask_ne {W : World} {y b n : Nat} {es : List Op} {kd p d f s m k : Int} (h : W.heap[y]? = some (askO kd p d f s m k)) (t : Tb W b n es) : y ≠ b := by
  rintro rfl
  obtain ⟨r, hr, -⟩ := t.hb
  rw [h] at hr
  simp at hr
theorem ask_ne' {W : World} {y r n : Nat} {F : Nat → Op} {G : Nat → Bool} {kd p d f s m k : Int} (h : W.heap[y]? = some (askO kd p d f s m k)) (t : Rt W r n F G) : y ≠ r := by
  rintro rfl
  have hr := t.hb
  rw [h] at hr
  simp at hr

section
variable {B b r n y : Nat} {w W : World} {es es' : List Op} {kd p d f s m k : Int}
theorem open_1 (h : PW B b r n w W es) (hy : W.heap[y]? = some (askO kd p d f s m k)) : Calls Try.prog 8 #[.pointer (some ⟨b, 0, none⟩), I p, .agg #[I m, I k], I f] W fun e w' => e = .returned (.tuple #[I (openA es n p), I (roomE es n p)]) ∧ Hid (PM B b r n w w' es (openL es n p m k f)) ∧ w'.heap[y]? = some (askO kd p d f s m k) := by
  refine (openc_any b n es p m k f W h.tb).mono ?_
  rintro e w' ⟨e1, h1, h2⟩
  exact ⟨e1, h.first h1 h2, (h2.block y (lt_of_heap hy) (ask_ne hy h.tb)).trans hy⟩
theorem open_2 (h : PM B b r n w W es (openL es n p m k f)) (hy : W.heap[y]? = some (askO kd p d f s m k)) : Calls Try.prog 16 #[.pointer (some ⟨r, 0, none⟩), I p, .agg #[I m, I k], I f] W fun e w' => e = .returned (.tuple #[I (openA es n p), I (roomE es n p)]) ∧ Hid (PW B b r n w w' (openL es n p m k f)) ∧ w'.heap[y]? = some (askO kd p d f s m k) := by
  obtain ⟨F, G, hr, hl⟩ := h.rt
  refine (ropen_any r n es p m k f F G W hr hl h.wf h.ln.1 h.ln.2).mono ?_
  rintro e w' ⟨e1, h1, h2⟩
  exact ⟨e1, h.second h1 h2 (h.wf.open (Nat.le_trans h.ln.1 h.ln.2)), (h2.block y (lt_of_heap hy) (ask_ne' hy hr)).trans hy⟩
theorem close_1 (h : PW B b r n w W es) (hy : W.heap[y]? = some (askO kd p d f s m k)) : Calls Try.prog 9 #[.pointer (some ⟨b, 0, none⟩), I p, I d] W fun e w' => e = .returned (.tuple #[Op.pv (getV es p d), I (findE es p d)]) ∧ Hid (PM B b r n w w' es (closeL es p d)) ∧ w'.heap[y]? = some (askO kd p d f s m k) := by
  refine (close_any b n es p d W h.tb).mono ?_
  rintro e w' ⟨e1, h1, h2⟩
  exact ⟨e1, h.first h1 h2, (h2.block y (lt_of_heap hy) (ask_ne hy h.tb)).trans hy⟩
theorem close_2 (h : PM B b r n w W es (closeL es p d)) (hy : W.heap[y]? = some (askO kd p d f s m k)) {z : Nat} {a0 a1 : Int} (hz : W.heap[z]? = some (.cells #[I a0, I a1] 29)) : Calls Try.prog 17 #[.pointer (some ⟨r, 0, none⟩), I p, I d] W fun e w' => e = .returned (.tuple #[Op.pv (getV es p d), I (findE es p d)]) ∧ Hid (PW B b r n w w' (closeL es p d)) ∧ w'.heap[y]? = some (askO kd p d f s m k) ∧ w'.heap[z]? = some (.cells #[I a0, I a1] 29) := by
  obtain ⟨F, G, hr, hl⟩ := h.rt
  refine (rclose_any r n es p d F G W hr hl h.wf).mono ?_
  rintro e w' ⟨e1, h1, h2⟩
  refine ⟨e1, h.second h1 h2 (h.wf.close p d), (h2.block y (lt_of_heap hy) (ask_ne' hy hr)).trans hy, (h2.block z (lt_of_heap hz) ?_).trans hz⟩
  rintro rfl
  have := hr.hb
  rw [hz] at this
  simp at this
theorem seek_1 (h : PW B b r n w W es) (hy : W.heap[y]? = some (askO kd p d f s m k)) : Calls Try.prog 10 #[.pointer (some ⟨b, 0, none⟩), I p, I d, I s] W fun e w' => e = .returned (I (seekE es p d s)) ∧ Hid (PM B b r n w w' es (seekL es p d s)) ∧ w'.heap[y]? = some (askO kd p d f s m k) := by
  refine (seek_any b n es p d s W h.tb).mono ?_
  rintro e w' ⟨e1, h1, h2⟩
  exact ⟨e1, h.first h1 h2, (h2.block y (lt_of_heap hy) (ask_ne hy h.tb)).trans hy⟩
theorem seek_2 (h : PM B b r n w W es (seekL es p d s)) (hy : W.heap[y]? = some (askO kd p d f s m k)) : Calls Try.prog 18 #[.pointer (some ⟨r, 0, none⟩), I p, I d, I s] W fun e w' => e = .returned (I (seekE es p d s)) ∧ Hid (PW B b r n w w' (seekL es p d s)) ∧ w'.heap[y]? = some (askO kd p d f s m k) := by
  obtain ⟨F, G, hr, hl⟩ := h.rt
  refine (rseek_any r n es p d s F G W hr hl h.wf).mono ?_
  rintro e w' ⟨e1, h1, h2⟩
  exact ⟨e1, h.second h1 h2 (h.wf.seek p d s), (h2.block y (lt_of_heap hy) (ask_ne' hy hr)).trans hy⟩
end
end Go.Proofs.Ytocaonbmijmbmaa
