/-
  Both pools side by side, and the call that both are asked.
-/
import Derived.Test.YtaogokgklkdmpaaRefH
import Derived.Sort.AtCall
namespace Go.Proofs.Ytaogokgklkdmpaa
open Go.RowKit Go.Maps

theorem Rq.base {base base' lim n : Nat} {W : World} {q : Nat} {s : S} (h : Rq base lim n W q s) (hb : base' ≤ base) : Rq base' lim n W q s := by
  obtain ⟨Lv, fb, bv, h⟩ := h
  exact ⟨Lv, fb, bv, h.hq, own_base h.hL hb, fun i x hi => ⟨(h.hx i x hi).hc, own_base (h.hx i x hi).hb hb, ⟨Nat.le_trans hb (h.hx i x hi).lc.1, (h.hx i x hi).lc.2⟩, (h.hx i x hi).lb, (h.hx i x hi).ok⟩, h.dc, ⟨Nat.le_trans hb h.lq.1, h.lq.2⟩, h.lL, Nat.le_trans hb h.ll.1, h.ll.2⟩
theorem Rq.ll {base lim n : Nat} {W : World} {q : Nat} {s : S} (h : Rq base lim n W q s) : base ≤ lim ∧ lim ≤ W.heap.size := let ⟨_, _, _, h⟩ := h; h.ll
/-- Both pools. -/
structure PQ (base lim n : Nat) (u W : World) (p q : Nat) (s t : S) : Prop where
  P : Pl base n W p s
  R : Rq base lim n W q t
  B : Below base u W
  hu : base = u.heap.size
  tt : t.left + total t.fs = n
section
variable {base lim n : Nat} {u W W' : World} {p q : Nat} {s t : S}
theorem PQ.nx (h : PQ base lim n u W p q s t) {s' : S} (hP : Pl base n W' p s') (hN : Nx base W W') : PQ base lim n u W' p q s' t := ⟨hP, h.R.nx hN, h.B.trans hN.bel, h.hu, h.tt⟩
theorem PQ.rf (h : PQ base lim n u W p q s t) (hR : Rq base W'.heap.size n W' q s) (hF : RFr base lim W W') : PQ base W'.heap.size n u W' p q s s :=
  ⟨h.P.keep hF.bel.size hF.mps fun b cs t f e ht => hF.oth b cs t f e (by rcases ht with rfl | rfl <;> decide) (by rcases ht with rfl | rfl <;> decide) (by rcases ht with rfl | rfl <;> decide) (by rcases ht with rfl | rfl <;> decide), hR, h.B.trans hF.bel, h.hu, h.P.tot⟩
theorem PQ.below (h : PQ base lim n u W p q s t) (g : Below W.heap.size W W') : PQ base lim n u W' p q s t := ⟨h.P.below g, h.R.below g, h.B.trans (g.mono h.P.bs), h.hu, h.tt⟩
theorem PQ.lift (h : PQ base lim n u W p q s t) : PQ base W.heap.size n u W p q s t := ⟨h.P, h.R.mono h.R.ll.2 (Nat.le_refl _), h.B, h.hu, h.tt⟩
end
/-- Both pools, and the call. -/
structure PW (base lim n : Nat) (u W : World) (p q : Nat) (s t : S) (xb : Nat) (kd f a z : Int) (ba : Option Addr) (m bc : Nat) (g : Nat → Int) : Prop where
  Q : PQ base lim n u W p q s t
  hx : W.heap[xb]? = some (.cells #[I kd, I f, I a, I z, .slice ba m bc] 39)
  hi : In u ba m bc g
def XC (W : World) (xb : Nat) (f a z : Int) (ba : Option Addr) (m bc : Nat) : Prop := W.cell? ⟨xb, 1, none⟩ = some (I f) ∧ W.cell? ⟨xb, 2, none⟩ = some (I a) ∧ W.cell? ⟨xb, 3, none⟩ = some (I z) ∧ W.cell? ⟨xb, 4, none⟩ = some (.slice ba m bc)
section
variable {base lim n : Nat} {u W W' : World} {p q : Nat} {s t : S} {xb : Nat} {kd f a z : Int} {ba : Option Addr} {m bc : Nat} {g : Nat → Int}
theorem PW.c0 (h : PW base lim n u W p q s t xb kd f a z ba m bc g) : W.cell? ⟨xb, 0, none⟩ = some (I kd) := by rw [cell_of h.hx]; rfl
theorem PW.cs (h : PW base lim n u W p q s t xb kd f a z ba m bc g) : XC W xb f a z ba m bc := by
  refine ⟨?_, ?_, ?_, ?_⟩ <;> rw [cell_of h.hx] <;> rfl
theorem PW.fz (h : PW base lim n u W p q s t xb kd f a z ba m bc g) : ∀ i, W.frozen? ⟨xb, i, none⟩ = false := frozen_of h.hx
theorem PW.inn (h : PW base lim n u W p q s t xb kd f a z ba m bc g) : In W ba m bc g := h.hi.base h.Q.hu h.Q.B
theorem PW.cut (h : PW base lim n u W p q s t xb kd f a z ba m bc g) {m' : Nat} (hm : m' ≤ m) (hb : base ≤ xb) : PW base lim n u (W.setCell ⟨xb, 4, none⟩ (.slice ba m' bc)) p q s t xb kd f a z ba m' bc g := by
  have hmp : ∀ (b : Nat) (es : Array MapEntry) (k : Nat), W.heap[b]? = some (.map es k) → (W.setCell ⟨xb, 4, none⟩ (.slice ba m' bc)).heap[b]? = W.heap[b]? := fun b es k e => Below.heap_setCell _ _ _ _ (fun e2 => by rw [show b = xb from e2, h.hx] at e; cases e)
  have hcl : ∀ (b : Nat) (cs : Array Value) (t : TypeId) (f : Nat × Nat), W.heap[b]? = some (.cells cs t f) → t ≠ 39 → (W.setCell ⟨xb, 4, none⟩ (.slice ba m' bc)).heap[b]? = W.heap[b]? := fun b cs t f e ht => Below.heap_setCell _ _ _ _ (fun e2 => by rw [show b = xb from e2, h.hx] at e; cases e; exact ht rfl)
  refine ⟨⟨h.Q.P.keep (by simp [World.setCell]) hmp fun b cs t f e ht => hcl b cs t f e (by rcases ht with rfl | rfl <;> decide), ?_, h.Q.B.trans ((Below.refl base W).setCell (by exact hb) _), h.Q.hu, h.Q.tt⟩, ?_, h.hi.take hm⟩
  · obtain ⟨Lv, fb, bv, hR⟩ := h.Q.R
    exact ⟨Lv, fb, bv, hR.keep (by simp [World.setCell]) fun b cs t f e ht => hcl b cs t f e (by rcases ht with rfl | rfl | rfl | rfl <;> decide)⟩
  · rw [heap_set h.hx]
    rfl
theorem PW.nx (h : PW base lim n u W p q s t xb kd f a z ba m bc g) {s' : S} (hP : Pl base n W' p s') (hN : Nx base W W') : PW base lim n u W' p q s' t xb kd f a z ba m bc g := ⟨h.Q.nx hP hN, hN.oth _ _ _ _ h.hx (by decide) (by decide), h.hi⟩
theorem PW.rf (h : PW base lim n u W p q s t xb kd f a z ba m bc g) (hR : Rq base W'.heap.size n W' q s) (hF : RFr base lim W W') : PW base W'.heap.size n u W' p q s s xb kd f a z ba m bc g := ⟨h.Q.rf hR hF, (hF.oth _ _ _ _ h.hx (by decide) (by decide) (by decide) (by decide)).trans h.hx, h.hi⟩
theorem PW.below (h : PW base lim n u W p q s t xb kd f a z ba m bc g) (k : Below W.heap.size W W') : PW base lim n u W' p q s t xb kd f a z ba m bc g := ⟨h.Q.below k, (k.block xb (lt_of_heap h.hx)).trans h.hx, h.hi⟩
theorem PW.drew (h : PW base lim n u W p q s t xb kd f a z ba m bc g) : PW base lim n u W.drew p q s t xb kd f a z ba m bc g := h.below (below_drew (Below.refl _ W))
theorem PW.dn (h : PW base lim n u W p q s t xb kd f a z ba m bc g) (k : Nat) : PW base lim n u (W.drewN k) p q s t xb kd f a z ba m bc g := h.below (below_dn (Below.refl _ W) k)
theorem PW.lift (h : PW base lim n u W p q s t xb kd f a z ba m bc g) : PW base W.heap.size n u W p q s t xb kd f a z ba m bc g := ⟨h.Q.lift, h.hx, h.hi⟩

theorem q_file (h : PW base lim n u W p q s s xb kd f a z ba m bc g) (hl : s.fs.length ≤ 1000) (x : Int) (hx : ((s.fs.length + 1 : Nat) : Int) = x) : Calls Try.prog 10 #[P0 p] W fun e w' => e = .returned (I x) ∧ XC w' xb f a z ba m bc ∧ Hid (PW base lim n u w' p q s.add s xb kd f a z ba m bc g) := by
  subst hx
  exact (file_any h.Q.P (by omega)).mono fun e w' ⟨h1, h2, h3⟩ => ⟨h1, (h.nx h2 h3).cs, hide (h.nx h2 h3)⟩
theorem q_make (h : PW base lim n u W p q s.add s xb kd f a z ba m bc g) (hl : s.fs.length ≤ 1000) (x : Int) (hx : ((s.fs.length + 1 : Nat) : Int) = x) : Calls Try.prog 19 #[P0 q] W fun e w' => e = .returned (I x) ∧ XC w' xb f a z ba m bc ∧ Hid (PW base w'.heap.size n u w' p q s.add s.add xb kd f a z ba m bc g) := by
  subst hx
  exact (rmake_any h.Q.R (by omega)).mono fun e w' ⟨h1, h2, h3⟩ => ⟨h1, (h.rf h2 h3).cs, hide (h.rf h2 h3)⟩
theorem q_drop (h : PW base lim n u W p q s s xb kd f a z ba m bc g) (hf : (kl f).wf = true) (x : Int) (hx : dropE s f = x) : Calls Try.prog 15 #[P0 p, I f] W fun e w' => e = .returned (I x) ∧ XC w' xb f a z ba m bc ∧ Hid (PW base lim n u w' p q (dropS s f) s xb kd f a z ba m bc g) := by
  subst hx
  exact (drop_any h.Q.P hf).mono fun e w' ⟨h1, h2, h3⟩ => ⟨h1, (h.nx h2 h3).cs, hide (h.nx h2 h3)⟩
theorem q_rdrop (h : PW base lim n u W p q (dropS s f) s xb kd f a z ba m bc g) (hf : (kl f).wf = true) (hl : s.fs.length ≤ 1000) (x : Int) (hx : dropE s f = x) : Calls Try.prog 20 #[P0 q, I f] W fun e w' => e = .returned (I x) ∧ XC w' xb f a z ba m bc ∧ Hid (PW base w'.heap.size n u w' p q (dropS s f) (dropS s f) xb kd f a z ba m bc g) := by
  subst hx
  exact (rdrop_any h.Q.R f hf (by omega)).mono fun e w' ⟨h1, h2, h3⟩ => ⟨h1, (h.rf h2 h3).cs, hide (h.rf h2 h3)⟩
theorem q_cut (h : PW base lim n u W p q s s xb kd f a z ba m bc g) (hf : (kl f).wf = true) (x : Int) (hx : cutE (s.get f) z = x) : Calls Try.prog 12 #[P0 p, I f, I z] W fun e w' => e = .returned (I x) ∧ XC w' xb f a z ba m bc ∧ Hid (PW base lim n u w' p q (cutS s f z) s xb kd f a z ba m bc g) := by
  subst hx
  exact (cut_any h.Q.P hf z).mono fun e w' ⟨h1, h2, h3⟩ => ⟨h1, (h.nx h2 h3).cs, hide (h.nx h2 h3)⟩
theorem q_rcut (h : PW base lim n u W p q (cutS s f z) s xb kd f a z ba m bc g) (hf : (kl f).wf = true) (hl : s.fs.length ≤ 1000) (x : Int) (hx : cutE (s.get f) z = x) : Calls Try.prog 25 #[P0 q, I f, I z] W fun e w' => e = .returned (I x) ∧ XC w' xb f a z ba m bc ∧ Hid (PW base w'.heap.size n u w' p q (cutS s f z) (cutS s f z) xb kd f a z ba m bc g) := by
  subst hx
  exact (rcut_any h.Q.R f z hf (by omega)).mono fun e w' ⟨h1, h2, h3⟩ => ⟨h1, (h.rf h2 h3).cs, hide (h.rf h2 h3)⟩
/-- The row with room behind it. -/
def Full (W : World) (b m l : Nat) (g : Nat → Int) : Prop := W.heap[b]? = some (.cells (lst (rm m l g) 0 l).toArray 5)
theorem Full.inn {b l : Nat} (h : Full W b m l g) (hm : m ≤ l) : In W (some ⟨b, 0, none⟩) m l g := fun _ => ⟨b, 0, rfl, fun j hj => by
  rw [Bs.of_row h j (by omega)]
  simp [rm, hj], hm⟩
theorem q_roomy (h : PW base lim n u W p q s s xb kd f a z ba m bc g) (hm : m ≤ 1100) (l : Nat) (hl : l = m + 80) : Calls Try.prog 22 #[.slice ba m bc, U 165] W fun e w' => ∃ b, e = .returned (.slice (some ⟨b, 0, none⟩) l l) ∧ XC w' xb f a z ba m bc ∧ Hid (PW base lim n u w' p q s s xb kd f a z ba m bc g) ∧ Hid (Full w' b m l g) ∧ lim ≤ b :=
  (roomy_any h.inn hm l hl).mono fun _ _ ⟨h1, h2, h3⟩ => ⟨W.heap.size, h1, (h.below (unhide h3)).cs, hide (h.below (unhide h3)), h2, h.Q.R.ll.2⟩
theorem q_write {b l : Nat} (h : PW base lim n u W p q s s xb kd f a z ba m bc g) (hF : Full W b m l g) (hm : m ≤ l) (hf : (kl f).wf = true) (ha : (kl a).wf = true) (x : Int) (hx : writeE s f a m = x) : Calls Try.prog 11 #[P0 p, I f, I a, .slice (some ⟨b, 0, none⟩) m l] W fun e w' => e = .returned (I x) ∧ XC w' xb f a z ba m bc ∧ Hid (PW base lim n u w' p q (writeS s f a m g) s xb kd f a z ba m bc g) ∧ Hid (Full w' b m l g) := by
  subst hx
  exact (write_any h.Q.P hf a ha _ m l g (hF.inn hm)).mono fun e w' ⟨h1, h2, h3⟩ => ⟨h1, (h.nx h2 h3).cs, hide (h.nx h2 h3), hide (h3.oth _ _ _ _ hF (by decide) (by decide))⟩
theorem q_rwrite {b l : Nat} (h : PW base lim n u W p q (writeS s f a m g) s xb kd f a z ba m bc g) (hF : Full W b m l g) (hb : lim ≤ b) (hm : m ≤ 1100) (hf : (kl f).wf = true) (hl : s.fs.length ≤ 1000) (x : Int) (hx : writeE s f a m = x) : Calls Try.prog 23 #[P0 q, I f, I a, .slice ba m bc] W fun e w' => e = .returned (I x) ∧ XC w' xb f a z ba m bc ∧ Hid (PW base w'.heap.size n u w' p q (writeS s f a m g) (writeS s f a m g) xb kd f a z ba m bc g) ∧ Hid (Full w' b m l g) := by
  subst hx
  exact (rwrite_any h.Q.R h.Q.tt h.Q.P.nn f a hf (by omega) ba m bc g h.hi h.Q.hu h.Q.B hm).mono fun e w' ⟨h1, h2, h3⟩ => ⟨h1, (h.rf h2 h3).cs, hide (h.rf h2 h3), hide ((h3.hi b hb (lt_of_heap hF)).trans hF)⟩
theorem q_intact {b l : Nat} (h : PW base lim n u W p q s t xb kd f a z ba m bc g) (hF : Full W b m l g) (hm : m ≤ 1100) (hl : l = m + 80) : Calls Try.prog 24 #[.slice (some ⟨b, 0, none⟩) l l, .slice ba m bc, U 165] W fun e w' => e = .returned (.bool true) ∧ XC w' xb f a z ba m bc ∧ Hid (PW base lim n u w' p q s t xb kd f a z ba m bc g) :=
  (intact_any hF h.inn hm hl).mono fun _ _ ⟨h1, h2⟩ => ⟨h1, (h.below h2).cs, hide (h.below h2)⟩
end
end Go.Proofs.Ytaogokgklkdmpaa
