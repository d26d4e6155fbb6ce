/-
  What Decode reads, as a pure function; a struct of nine cells that is stored; what lies while a call is read.
-/
import Derived.Test.YtcopjhidijhlaaaCNum
namespace Go.Proofs.Ytcopjhidijhlaaa.Cl
open Go.RowKit

/-- What a reader holds: what is left, and whether it was cut off. -/
abbrev Rs := List UInt8 × Bool
def rN (s : Nat) (q : Rs) : Rs := (lft s q.1, ctt s q.1 q.2)
def vN (s : Nat) (q : Rs) : Nat := nat (tkn s q.1)
def rT (q : Rs) : Rs := rN (vN 2 q) (rN 2 q)
def vT (q : Rs) : List UInt8 := tkn (vN 2 q) (rN 2 q).1
/-- 32 bits with a sign. -/
def sx (n : Nat) : Int := if n < 2147483648 then (n : Int) else (n : Int) - 4294967296
def q3 (b : List UInt8) : Rs := rT (rT (rN 1 (b, false)))
def qn (b : List UInt8) : Nat → Rs
  | 0 => q3 b
  | k + 1 => rN 4 (qn b k)
def q9 (b : List UInt8) : Rs := rT (qn b 5)
/-- The call with which b begins. -/
def dcc (b : List UInt8) : Cc := ⟨vN 1 (b, false), vT (rN 1 (b, false)), vT (rT (rN 1 (b, false))), sx (vN 4 (qn b 0)), sx (vN 4 (qn b 1)), sx (vN 4 (qn b 2)), sx (vN 4 (qn b 3)), sx (vN 4 (qn b 4)), vT (qn b 5)⟩
def cc0 : Cc := ⟨0, [], [], 0, 0, 0, 0, 0, []⟩
/-- Why b is refused. -/
def dwhy (b : List UInt8) : Int := if (q9 b).2 = true then 10 else (dcc b).right
/-- The call while so many of its numbers have been read. -/
def pcc (b : List UInt8) (k : Nat) : Cc := ⟨vN 1 (b, false), vT (rN 1 (b, false)), vT (rT (rN 1 (b, false))), if 0 < k then sx (vN 4 (qn b 0)) else 0, if 1 < k then sx (vN 4 (qn b 1)) else 0, if 2 < k then sx (vN 4 (qn b 2)) else 0, if 3 < k then sx (vN 4 (qn b 3)) else 0, if 4 < k then sx (vN 4 (qn b 4)) else 0, []⟩
theorem pcc_set (b : List UInt8) (k : Nat) (hk : k < 5) (d : Value) : ((pcc b k).cs d).setIfInBounds (3 + k) (I (sx (vN 4 (qn b k)))) = (pcc b (k + 1)).cs d := by
  match k, hk with
  | 0, _ => simp [pcc, Cc.cs]
  | 1, _ => simp [pcc, Cc.cs]
  | 2, _ => simp [pcc, Cc.cs]
  | 3, _ => simp [pcc, Cc.cs]
  | 4, _ => simp [pcc, Cc.cs]

theorem store9 {W : World} {b : Nat} {t : TypeId} {a0 a1 a2 a3 a4 a5 a6 a7 a8 : Value} (h : W.heap[b]? = some (.cells #[a0, a1, a2, a3, a4, a5, a6, a7, a8] t)) (v0 v1 v2 v3 v4 v5 v6 v7 v8 : Value) :
    ∃ X1 X2 X3 X4 X5 X6 X7 X8 X9 : World, (W.setCell ⟨b, 0, none⟩ v0 = X1 ∧ X1.setCell ⟨b, 1, none⟩ v1 = X2 ∧ X2.setCell ⟨b, 2, none⟩ v2 = X3 ∧ X3.setCell ⟨b, 3, none⟩ v3 = X4 ∧ X4.setCell ⟨b, 4, none⟩ v4 = X5 ∧ X5.setCell ⟨b, 5, none⟩ v5 = X6 ∧ X6.setCell ⟨b, 6, none⟩ v6 = X7 ∧ X7.setCell ⟨b, 7, none⟩ v7 = X8 ∧ X8.setCell ⟨b, 8, none⟩ v8 = X9) ∧
      (W.cell? ⟨b, 0, none⟩ = some a0 ∧ X1.cell? ⟨b, 1, none⟩ = some a1 ∧ X2.cell? ⟨b, 2, none⟩ = some a2 ∧ X3.cell? ⟨b, 3, none⟩ = some a3 ∧ X4.cell? ⟨b, 4, none⟩ = some a4 ∧ X5.cell? ⟨b, 5, none⟩ = some a5 ∧ X6.cell? ⟨b, 6, none⟩ = some a6 ∧ X7.cell? ⟨b, 7, none⟩ = some a7 ∧ X8.cell? ⟨b, 8, none⟩ = some a8) ∧
      (W.frozen? ⟨b, 0, none⟩ = false ∧ X1.frozen? ⟨b, 1, none⟩ = false ∧ X2.frozen? ⟨b, 2, none⟩ = false ∧ X3.frozen? ⟨b, 3, none⟩ = false ∧ X4.frozen? ⟨b, 4, none⟩ = false ∧ X5.frozen? ⟨b, 5, none⟩ = false ∧ X6.frozen? ⟨b, 6, none⟩ = false ∧ X7.frozen? ⟨b, 7, none⟩ = false ∧ X8.frozen? ⟨b, 8, none⟩ = false) ∧
      X9.heap[b]? = some (.cells #[v0, v1, v2, v3, v4, v5, v6, v7, v8] t) ∧ Gr b W X9 := by
  obtain ⟨X1, e1⟩ : ∃ X, W.setCell ⟨b, 0, none⟩ v0 = X := ⟨_, rfl⟩
  have h1 : X1.heap[b]? = some (.cells #[v0, a1, a2, a3, a4, a5, a6, a7, a8] t) := by rw [← e1, heap_set h]; rfl
  have g1 : Gr b W X1 := e1 ▸ Gr.set b 0 W v0
  obtain ⟨X2, e2⟩ : ∃ X, X1.setCell ⟨b, 1, none⟩ v1 = X := ⟨_, rfl⟩
  have h2 : X2.heap[b]? = some (.cells #[v0, v1, a2, a3, a4, a5, a6, a7, a8] t) := by rw [← e2, heap_set h1]; rfl
  have g2 : Gr b X1 X2 := e2 ▸ Gr.set b 1 X1 v1
  obtain ⟨X3, e3⟩ : ∃ X, X2.setCell ⟨b, 2, none⟩ v2 = X := ⟨_, rfl⟩
  have h3 : X3.heap[b]? = some (.cells #[v0, v1, v2, a3, a4, a5, a6, a7, a8] t) := by rw [← e3, heap_set h2]; rfl
  have g3 : Gr b X2 X3 := e3 ▸ Gr.set b 2 X2 v2
  obtain ⟨X4, e4⟩ : ∃ X, X3.setCell ⟨b, 3, none⟩ v3 = X := ⟨_, rfl⟩
  have h4 : X4.heap[b]? = some (.cells #[v0, v1, v2, v3, a4, a5, a6, a7, a8] t) := by rw [← e4, heap_set h3]; rfl
  have g4 : Gr b X3 X4 := e4 ▸ Gr.set b 3 X3 v3
  obtain ⟨X5, e5⟩ : ∃ X, X4.setCell ⟨b, 4, none⟩ v4 = X := ⟨_, rfl⟩
  have h5 : X5.heap[b]? = some (.cells #[v0, v1, v2, v3, v4, a5, a6, a7, a8] t) := by rw [← e5, heap_set h4]; rfl
  have g5 : Gr b X4 X5 := e5 ▸ Gr.set b 4 X4 v4
  obtain ⟨X6, e6⟩ : ∃ X, X5.setCell ⟨b, 5, none⟩ v5 = X := ⟨_, rfl⟩
  have h6 : X6.heap[b]? = some (.cells #[v0, v1, v2, v3, v4, v5, a6, a7, a8] t) := by rw [← e6, heap_set h5]; rfl
  have g6 : Gr b X5 X6 := e6 ▸ Gr.set b 5 X5 v5
  obtain ⟨X7, e7⟩ : ∃ X, X6.setCell ⟨b, 6, none⟩ v6 = X := ⟨_, rfl⟩
  have h7 : X7.heap[b]? = some (.cells #[v0, v1, v2, v3, v4, v5, v6, a7, a8] t) := by rw [← e7, heap_set h6]; rfl
  have g7 : Gr b X6 X7 := e7 ▸ Gr.set b 6 X6 v6
  obtain ⟨X8, e8⟩ : ∃ X, X7.setCell ⟨b, 7, none⟩ v7 = X := ⟨_, rfl⟩
  have h8 : X8.heap[b]? = some (.cells #[v0, v1, v2, v3, v4, v5, v6, v7, a8] t) := by rw [← e8, heap_set h7]; rfl
  have g8 : Gr b X7 X8 := e8 ▸ Gr.set b 7 X7 v7
  obtain ⟨X9, e9⟩ : ∃ X, X8.setCell ⟨b, 8, none⟩ v8 = X := ⟨_, rfl⟩
  have h9 : X9.heap[b]? = some (.cells #[v0, v1, v2, v3, v4, v5, v6, v7, v8] t) := by rw [← e9, heap_set h8]; rfl
  have g9 : Gr b X8 X9 := e9 ▸ Gr.set b 8 X8 v8
  refine ⟨X1, X2, X3, X4, X5, X6, X7, X8, X9, ⟨e1, e2, e3, e4, e5, e6, e7, e8, e9⟩, ⟨?_, ?_, ?_, ?_, ?_, ?_, ?_, ?_, ?_⟩, ⟨frozen_of h _, frozen_of h1 _, frozen_of h2 _, frozen_of h3 _, frozen_of h4 _, frozen_of h5 _, frozen_of h6 _, frozen_of h7 _, frozen_of h8 _⟩, h9, ?_⟩
  · rw [cell_of h]; rfl
  · rw [cell_of h1]; rfl
  · rw [cell_of h2]; rfl
  · rw [cell_of h3]; rfl
  · rw [cell_of h4]; rfl
  · rw [cell_of h5]; rfl
  · rw [cell_of h6]; rfl
  · rw [cell_of h7]; rfl
  · rw [cell_of h8]; rfl
  · exact (((((((g1.trans g2).trans g3).trans g4).trans g5).trans g6).trans g7).trans g8).trans g9

/-- What lies while a call is read: the answer's cells (h), the reader (h + 1), the call (p). -/
structure De (w W : World) (h p : Nat) (x : Cc) (d : Value) (q : Rs) : Prop where
  be : Below h w W
  rs : W.heap[h]? = some (.cells (cc0.cs (.slice none 0 0)) 27)
  rd : ∃ a cap, Rd W h (h + 1) a cap q.1 q.2
  c : W.heap[p]? = some (.cells (x.cs d) 27)
  hp : h + 1 < p
theorem De.grow {w W W' : World} {h p : Nat} {x : Cc} {d : Value} {q q' : Rs} (D : De w W h p x d q) (g : Gr (h + 1) W W') (r : ∃ a cap, Rd W' h (h + 1) a cap q'.1 q'.2) : De w W' h p x d q' :=
  ⟨D.be.trans (g.below (by omega) (Nat.le_of_lt (lt_of_heap D.rs))), g.keep D.rs (by omega), r, g.keep D.c (by have := D.hp; omega), D.hp⟩
theorem Rd.keep {W W' : World} {B r : Nat} {a : Option Addr} {cap : Nat} {l : List UInt8} {cut : Bool} (h : Rd W B r a cap l cut) (hb : W'.heap[r]? = W.heap[r]?) (hB : Below B W W') : Rd W' B r a cap l cut := ⟨hb.trans h.b, h.by'.below hB, h.hB, h.hc, h.hm, h.hn⟩
theorem De.set {w W : World} {h p : Nat} {x x' : Cc} {d d' : Value} {q : Rs} (D : De w W h p x d q) (i : Nat) (v : Value) (hx : (x.cs d).setIfInBounds i v = x'.cs d') : De w (W.setCell ⟨p, i, none⟩ v) h p x' d' q := by
  have hp := D.hp
  obtain ⟨a, cap, hr⟩ := D.rd
  have hB : Below h W (W.setCell ⟨p, i, none⟩ v) := (Gr.set p i W v).below (by omega) (Nat.le_of_lt (lt_of_heap D.rs))
  refine ⟨D.be.trans hB, (Below.heap_setCell _ _ _ _ (by simp; omega)).trans D.rs, ⟨a, cap, hr.keep (Below.heap_setCell _ _ _ _ (by simp; omega)) hB⟩, ?_, hp⟩
  rw [heap_set D.c, hx]
theorem De.kept {w W W' : World} {h p : Nat} {x : Cc} {d : Value} {q : Rs} (D : De w W h p x d q) (k : Kp h W W') : De w W' h p x d q := by
  obtain ⟨a, cap, hr⟩ := D.rd
  exact ⟨D.be.trans k.be, k.keep D.rs (by decide), ⟨a, cap, ⟨k.keep hr.b (by decide), hr.by'.below k.be, hr.hB, hr.hc, hr.hm, hr.hn⟩⟩, k.keep D.c (by decide), D.hp⟩
theorem De.below {w W W' : World} {h p : Nat} {x : Cc} {d : Value} {q : Rs} (D : De w W h p x d q) (k : Below W.heap.size W W') : De w W' h p x d q := D.kept (Kp.of_below k (Nat.le_of_lt (lt_of_heap D.rs)))
theorem De.drew {w W : World} {h p : Nat} {x : Cc} {d : Value} {q : Rs} (D : De w W h p x d q) : De w W.drew h p x d q := D.below ⟨rfl, rfl, rfl, Nat.le_refl _, fun _ _ => rfl⟩
theorem De.putO {w W : World} {h p L : Nat} {x : Cc} {d : Value} {q : Rs} (D : De w W h p x d q) {o : Obj} (hL : W.heap[L]? = some o) (ho : ∀ c t f, o ≠ .cells c t f) (hh : h ≤ L) (o' : Obj) : De w (W.putObj L o') h p x d q := by
  obtain ⟨a, cap, hr⟩ := D.rd
  have ne : ∀ {k : Nat} {c : Array Value} {t : TypeId} {f : Nat × Nat}, W.heap[k]? = some (.cells c t f) → k ≠ L := by rintro k c t f hk rfl; rw [hk] at hL; exact ho _ _ _ (Option.some.inj hL).symm
  have hB : Below h W (W.putObj L o') := below_put (Below.refl _ _) hh _
  exact ⟨D.be.trans hB, (World.putObj_heap_other (ne D.rs)).trans D.rs, ⟨a, cap, hr.keep (World.putObj_heap_other (ne hr.b)) hB⟩, (World.putObj_heap_other (ne D.c)).trans D.c, D.hp⟩
end Go.Proofs.Ytcopjhidijhlaaa.Cl
