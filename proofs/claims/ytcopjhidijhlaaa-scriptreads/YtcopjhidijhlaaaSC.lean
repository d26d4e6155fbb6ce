/-
  A struct of twelve cells that is stored; the contracts of numbered, start and first.
-/
import Derived.Test.YtcopjhidijhlaaaSA
import Derived.Test.YtcopjhidijhlaaaSBackA
import Derived.BigRegion
namespace Go.Proofs.Ytcopjhidijhlaaa.Cl
open Go.RowKit
attribute [local go_sem ↓] Go.wp_at_zero Go.wp_at_succ

theorem store12 {W : World} {b : Nat} {t : TypeId} {a0 a1 a2 a3 a4 a5 a6 a7 a8 a9 a10 a11 : Value} (h : W.heap[b]? = some (.cells #[a0, a1, a2, a3, a4, a5, a6, a7, a8, a9, a10, a11] t)) (v0 v1 v2 v3 v4 v5 v6 v7 v8 v9 v10 v11 : Value) :
    ∃ X1 X2 X3 X4 X5 X6 X7 X8 X9 X10 X11 X12 : World, (W.setCell ⟨b, 0, none⟩ v0 = X1 ∧ X1.setCell ⟨b, 1, none⟩ v1 = X2 ∧ X2.setCell ⟨b, 2, none⟩ v2 = X3 ∧ X3.setCell ⟨b, 3, none⟩ v3 = X4 ∧ X4.setCell ⟨b, 4, none⟩ v4 = X5 ∧ X5.setCell ⟨b, 5, none⟩ v5 = X6 ∧ X6.setCell ⟨b, 6, none⟩ v6 = X7 ∧ X7.setCell ⟨b, 7, none⟩ v7 = X8 ∧ X8.setCell ⟨b, 8, none⟩ v8 = X9 ∧ X9.setCell ⟨b, 9, none⟩ v9 = X10 ∧ X10.setCell ⟨b, 10, none⟩ v10 = X11 ∧ X11.setCell ⟨b, 11, none⟩ v11 = X12) ∧
      (W.cell? ⟨b, 0, none⟩ = some a0 ∧ X1.cell? ⟨b, 1, none⟩ = some a1 ∧ X2.cell? ⟨b, 2, none⟩ = some a2 ∧ X3.cell? ⟨b, 3, none⟩ = some a3 ∧ X4.cell? ⟨b, 4, none⟩ = some a4 ∧ X5.cell? ⟨b, 5, none⟩ = some a5 ∧ X6.cell? ⟨b, 6, none⟩ = some a6 ∧ X7.cell? ⟨b, 7, none⟩ = some a7 ∧ X8.cell? ⟨b, 8, none⟩ = some a8 ∧ X9.cell? ⟨b, 9, none⟩ = some a9 ∧ X10.cell? ⟨b, 10, none⟩ = some a10 ∧ X11.cell? ⟨b, 11, none⟩ = some a11) ∧
      (W.frozen? ⟨b, 0, none⟩ = false ∧ X1.frozen? ⟨b, 1, none⟩ = false ∧ X2.frozen? ⟨b, 2, none⟩ = false ∧ X3.frozen? ⟨b, 3, none⟩ = false ∧ X4.frozen? ⟨b, 4, none⟩ = false ∧ X5.frozen? ⟨b, 5, none⟩ = false ∧ X6.frozen? ⟨b, 6, none⟩ = false ∧ X7.frozen? ⟨b, 7, none⟩ = false ∧ X8.frozen? ⟨b, 8, none⟩ = false ∧ X9.frozen? ⟨b, 9, none⟩ = false ∧ X10.frozen? ⟨b, 10, none⟩ = false ∧ X11.frozen? ⟨b, 11, none⟩ = false) ∧
      X12.heap[b]? = some (.cells #[v0, v1, v2, v3, v4, v5, v6, v7, v8, v9, v10, v11] t) ∧ Gr b W X12 := by
  obtain ⟨X1, e1⟩ : ∃ X, W.setCell ⟨b, 0, none⟩ v0 = X := ⟨_, rfl⟩
  have h1 : X1.heap[b]? = some (.cells #[v0, a1, a2, a3, a4, a5, a6, a7, a8, a9, a10, a11] t) := by rw [← e1, heap_set h]; rfl
  have g1 : Gr b W X1 := e1 ▸ Gr.set b 0 W v0
  obtain ⟨X2, e2⟩ : ∃ X, X1.setCell ⟨b, 1, none⟩ v1 = X := ⟨_, rfl⟩
  have h2 : X2.heap[b]? = some (.cells #[v0, v1, a2, a3, a4, a5, a6, a7, a8, a9, a10, a11] t) := by rw [← e2, heap_set h1]; rfl
  have g2 : Gr b X1 X2 := e2 ▸ Gr.set b 1 X1 v1
  obtain ⟨X3, e3⟩ : ∃ X, X2.setCell ⟨b, 2, none⟩ v2 = X := ⟨_, rfl⟩
  have h3 : X3.heap[b]? = some (.cells #[v0, v1, v2, a3, a4, a5, a6, a7, a8, a9, a10, a11] t) := by rw [← e3, heap_set h2]; rfl
  have g3 : Gr b X2 X3 := e3 ▸ Gr.set b 2 X2 v2
  obtain ⟨X4, e4⟩ : ∃ X, X3.setCell ⟨b, 3, none⟩ v3 = X := ⟨_, rfl⟩
  have h4 : X4.heap[b]? = some (.cells #[v0, v1, v2, v3, a4, a5, a6, a7, a8, a9, a10, a11] t) := by rw [← e4, heap_set h3]; rfl
  have g4 : Gr b X3 X4 := e4 ▸ Gr.set b 3 X3 v3
  obtain ⟨X5, e5⟩ : ∃ X, X4.setCell ⟨b, 4, none⟩ v4 = X := ⟨_, rfl⟩
  have h5 : X5.heap[b]? = some (.cells #[v0, v1, v2, v3, v4, a5, a6, a7, a8, a9, a10, a11] t) := by rw [← e5, heap_set h4]; rfl
  have g5 : Gr b X4 X5 := e5 ▸ Gr.set b 4 X4 v4
  obtain ⟨X6, e6⟩ : ∃ X, X5.setCell ⟨b, 5, none⟩ v5 = X := ⟨_, rfl⟩
  have h6 : X6.heap[b]? = some (.cells #[v0, v1, v2, v3, v4, v5, a6, a7, a8, a9, a10, a11] t) := by rw [← e6, heap_set h5]; rfl
  have g6 : Gr b X5 X6 := e6 ▸ Gr.set b 5 X5 v5
  obtain ⟨X7, e7⟩ : ∃ X, X6.setCell ⟨b, 6, none⟩ v6 = X := ⟨_, rfl⟩
  have h7 : X7.heap[b]? = some (.cells #[v0, v1, v2, v3, v4, v5, v6, a7, a8, a9, a10, a11] t) := by rw [← e7, heap_set h6]; rfl
  have g7 : Gr b X6 X7 := e7 ▸ Gr.set b 6 X6 v6
  obtain ⟨X8, e8⟩ : ∃ X, X7.setCell ⟨b, 7, none⟩ v7 = X := ⟨_, rfl⟩
  have h8 : X8.heap[b]? = some (.cells #[v0, v1, v2, v3, v4, v5, v6, v7, a8, a9, a10, a11] t) := by rw [← e8, heap_set h7]; rfl
  have g8 : Gr b X7 X8 := e8 ▸ Gr.set b 7 X7 v7
  obtain ⟨X9, e9⟩ : ∃ X, X8.setCell ⟨b, 8, none⟩ v8 = X := ⟨_, rfl⟩
  have h9 : X9.heap[b]? = some (.cells #[v0, v1, v2, v3, v4, v5, v6, v7, v8, a9, a10, a11] t) := by rw [← e9, heap_set h8]; rfl
  have g9 : Gr b X8 X9 := e9 ▸ Gr.set b 8 X8 v8
  obtain ⟨X10, e10⟩ : ∃ X, X9.setCell ⟨b, 9, none⟩ v9 = X := ⟨_, rfl⟩
  have h10 : X10.heap[b]? = some (.cells #[v0, v1, v2, v3, v4, v5, v6, v7, v8, v9, a10, a11] t) := by rw [← e10, heap_set h9]; rfl
  have g10 : Gr b X9 X10 := e10 ▸ Gr.set b 9 X9 v9
  obtain ⟨X11, e11⟩ : ∃ X, X10.setCell ⟨b, 10, none⟩ v10 = X := ⟨_, rfl⟩
  have h11 : X11.heap[b]? = some (.cells #[v0, v1, v2, v3, v4, v5, v6, v7, v8, v9, v10, a11] t) := by rw [← e11, heap_set h10]; rfl
  have g11 : Gr b X10 X11 := e11 ▸ Gr.set b 10 X10 v10
  obtain ⟨X12, e12⟩ : ∃ X, X11.setCell ⟨b, 11, none⟩ v11 = X := ⟨_, rfl⟩
  have h12 : X12.heap[b]? = some (.cells #[v0, v1, v2, v3, v4, v5, v6, v7, v8, v9, v10, v11] t) := by rw [← e12, heap_set h11]; rfl
  have g12 : Gr b X11 X12 := e12 ▸ Gr.set b 11 X11 v11
  refine ⟨X1, X2, X3, X4, X5, X6, X7, X8, X9, X10, X11, X12, ⟨e1, e2, e3, e4, e5, e6, e7, e8, e9, e10, e11, e12⟩, ⟨?_, ?_, ?_, ?_, ?_, ?_, ?_, ?_, ?_, ?_, ?_, ?_⟩, ⟨frozen_of h _, frozen_of h1 _, frozen_of h2 _, frozen_of h3 _, frozen_of h4 _, frozen_of h5 _, frozen_of h6 _, frozen_of h7 _, frozen_of h8 _, frozen_of h9 _, frozen_of h10 _, frozen_of h11 _⟩, h12, ?_⟩
  · rw [cell_of h]; rfl
  · rw [cell_of h1]; rfl
  · rw [cell_of h2]; rfl
  · rw [cell_of h3]; rfl
  · rw [cell_of h4]; rfl
  · rw [cell_of h5]; rfl
  · rw [cell_of h6]; rfl
  · rw [cell_of h7]; rfl
  · rw [cell_of h8]; rfl
  · rw [cell_of h9]; rfl
  · rw [cell_of h10]; rfl
  · rw [cell_of h11]; rfl
  · exact (((((((((((g1.trans g2).trans g3).trans g4).trans g5).trans g6).trans g7).trans g8).trans g9).trans g10).trans g11).trans g12)
theorem By.at' {W : World} {B g off : Nat} {l : List UInt8} (h : By W B (some ⟨g, off, none⟩) l) {k : Nat} {c : UInt8} (hk : l[k]? = some c) : W.cell? ⟨g, off + k, none⟩ = some (.int .u8 c.toNat) := by
  obtain ⟨b, o, e, -, h3⟩ := h k c hk
  simp at e
  obtain ⟨rfl, rfl⟩ := e
  exact h3
theorem By.head {W : World} {B : Nat} {a : Option Addr} {c : UInt8} {l : List UInt8} (h : By W B a (c :: l)) : ∃ g off, a = some ⟨g, off, none⟩ ∧ g < B := by
  obtain ⟨b, o, e, h2, -⟩ := h 0 c rfl
  exact ⟨b, o, e, h2⟩
/-- A row of bytes that a value stands for. -/
def Dt (W : World) (B : Nat) (d : Value) (l : List UInt8) : Prop := ∃ a cap, d = .slice a l.length cap ∧ By W B a l ∧ l.length ≤ cap ∧ cap ≤ maxLen ∧ ∀ k, d.ownBlock = some k → k < B ∧ ∃ cs f, W.heap[k]? = some (.cells cs 5 f)
theorem Dt.nil (W : World) (B : Nat) : Dt W B (.slice none 0 0) [] := ⟨none, 0, rfl, By.nil _ _ _, Nat.le_refl _, by unfold maxLen; omega, fun k e => by cases e⟩
theorem Dt.below {W W' : World} {B : Nat} {d : Value} {l : List UInt8} (h : Dt W B d l) (g : Below B W W') : Dt W' B d l := by
  obtain ⟨a, cap, h1, h2, h3, h4, h5⟩ := h
  exact ⟨a, cap, h1, h2.below g, h3, h4, fun k e => by
    obtain ⟨h6, cs, f, h7⟩ := h5 k e
    exact ⟨h6, cs, f, (g.block k h6).trans h7⟩⟩
theorem Dt.mono {W : World} {B B' : Nat} {d : Value} {l : List UInt8} (h : Dt W B d l) (g : B ≤ B') : Dt W B' d l := by
  obtain ⟨a, cap, h1, h2, h3, h4, h5⟩ := h
  exact ⟨a, cap, h1, h2.mono g, h3, h4, fun k e => ⟨Nat.lt_of_lt_of_le (h5 k e).1 g, (h5 k e).2⟩⟩
theorem bwDt {W : World} {B : Nat} {v : Value} {l : List UInt8} (h : Bw W B v l) : Dt W W.heap.size v l := by
  have hf := h.form
  obtain ⟨rfl, rfl⟩ | ⟨g, cap, cur, fz, rfl, h2, h3, h4, h5, h6, h7, h8⟩ := h
  · exact Dt.nil _ _
  · obtain ⟨a, c, e, h9, -⟩ := hf
    simp at e
    exact ⟨some ⟨g, 0, none⟩, cap, rfl, by rw [e.1]; exact h9, h5, h6, fun k e => by
      simp [Value.ownBlock] at e
      subst e
      exact ⟨lt_of_heap h3, _, _, h3⟩⟩
theorem Dt.gr {W W' : World} {B b : Nat} {d : Value} {l : List UInt8} {cs : Array Value} {t : TypeId} {f : Nat × Nat} (h : Dt W B d l) (g : Gr b W W') (hb : W.heap[b]? = some (.cells cs t f)) (ht : t ≠ 5) : Dt W' B d l := by
  obtain ⟨a, cap, h1, h2, h3, h4, h5⟩ := h
  have key : ∀ k, d.ownBlock = some k → W'.heap[k]? = W.heap[k]? := fun k e => by
    obtain ⟨-, cs', f', h7⟩ := h5 k e
    refine g.block k (lt_of_heap h7) ?_
    simp
    rintro rfl
    rw [h7] at hb
    simp at hb
    exact ht hb.2.1.symm
  refine ⟨a, cap, h1, fun k c hk => ?_, h3, h4, fun k e => ⟨(h5 k e).1, ?_⟩⟩
  · obtain ⟨b', off, e1, e2, e3⟩ := h2 k c hk
    refine ⟨b', off, e1, e2, (World.cell?_of_block (key b' ?_)).trans e3⟩
    rw [h1, e1]
    rfl
  · rw [key k e]
    exact (h5 k e).2
/-- What Decode's parts answer: an item and how many bytes are its. -/
def Fo (w w' : World) (e : Ending) (y : It × Nat) : Prop := (∃ d, e = .returned (.tuple #[.agg (y.1.cs d), I (y.2 : Nat)]) ∧ Dt w' w'.heap.size d y.1.c.data) ∧ Below w.heap.size w w'
theorem Fo.of {w w' : World} {e : Ending} {y : It × Nat} {d : Value} (h1 : e = .returned (.tuple #[.agg (y.1.cs d), I (y.2 : Nat)])) (h2 : Dt w' w'.heap.size d y.1.c.data) (h3 : Below w.heap.size w w') : Fo w w' e y := ⟨⟨d, h1, h2⟩, h3⟩
abbrev Z12 : Array Value := #[I 0, I 0, I 0, I 0, .string ⟨#[]⟩, .string ⟨#[]⟩, I 0, I 0, I 0, I 0, I 0, .slice none 0 0]
set_option maxRecDepth 100000 in
set_option maxHeartbeats 2000000 in
theorem numbered_no (b : List UInt8) (a : Option Addr) (n cap : Nat) (hn : n = b.length) (h3 : n < 3) (w : World) :
    Calls Try.prog 46 #[.slice a n cap] w fun e w' => Fo w w' e (it0, n) := by
  obtain ⟨V, hV, hs, g0, hB⟩ := alloc1 w (.cells Z12 29)
  obtain ⟨X1, X2, X3, X4, X5, X6, X7, X8, X9, X10, X11, X12, ⟨y1, y2, y3, y4, y5, y6, y7, y8, y9, y10, y11, y12⟩, ⟨s1, s2, s3, s4, s5, s6, s7, s8, s9, s10, s11, s12⟩, ⟨f1, f2, f3, f4, f5, f6, f7, f8, f9, f10, f11, f12⟩, gX, grX⟩ := store12 g0 (I 0) (I 0) (I 0) (I 0) (.string ⟨#[]⟩) (.string ⟨#[]⟩) (I 0) (I 0) (I 0) (I 0) (I 0) (.slice none 0 0)
  have z0 : X12.cell? ⟨w.heap.size, 0, none⟩ = some (I 0) := by rw [cell_of gX]; rfl
  have z1 : X12.cell? ⟨w.heap.size, 1, none⟩ = some (I 0) := by rw [cell_of gX]; rfl
  have z2 : X12.cell? ⟨w.heap.size, 2, none⟩ = some (I 0) := by rw [cell_of gX]; rfl
  have z3 : X12.cell? ⟨w.heap.size, 3, none⟩ = some (I 0) := by rw [cell_of gX]; rfl
  have z4 : X12.cell? ⟨w.heap.size, 4, none⟩ = some (.string ⟨#[]⟩) := by rw [cell_of gX]; rfl
  have z5 : X12.cell? ⟨w.heap.size, 5, none⟩ = some (.string ⟨#[]⟩) := by rw [cell_of gX]; rfl
  have z6 : X12.cell? ⟨w.heap.size, 6, none⟩ = some (I 0) := by rw [cell_of gX]; rfl
  have z7 : X12.cell? ⟨w.heap.size, 7, none⟩ = some (I 0) := by rw [cell_of gX]; rfl
  have z8 : X12.cell? ⟨w.heap.size, 8, none⟩ = some (I 0) := by rw [cell_of gX]; rfl
  have z9 : X12.cell? ⟨w.heap.size, 9, none⟩ = some (I 0) := by rw [cell_of gX]; rfl
  have z10 : X12.cell? ⟨w.heap.size, 10, none⟩ = some (I 0) := by rw [cell_of gX]; rfl
  have z11 : X12.cell? ⟨w.heap.size, 11, none⟩ = some (.slice none 0 0) := by rw [cell_of gX]; rfl
  have hq : (n : Int) < 3 := by omega
  have HB := hide (hB.trans (grX.below (Nat.le_refl _) (by omega)))
  have HZ := hide hs
  clear hB g0 hs gX grX hn
  go_enter Try.func46, Try.ntmps46
  go_wp2_with fail
  exact bodyPost_ret (v := .tuple #[.agg Z12, I (n : Nat)]) (by simp [results, Try.results46, go_sem, z0, z1, z2, z3, z4, z5, z6, z7, z8, z9, z10, z11]) rfl (Fo.of (d := .slice none 0 0) rfl (Dt.nil _ _) (by first | exact unhide HB | exact below_drew (unhide HB)))
set_option maxRecDepth 100000 in
set_option maxHeartbeats 4000000 in
theorem numbered_yes (k h l : UInt8) (t : List UInt8) (a : Option Addr) (n cap : Nat) (hn : n = t.length + 3) (w : World) (hb : By w w.heap.size a (k :: h :: l :: t)) :
    Calls Try.prog 46 #[.slice a n cap] w fun e w' => Fo w w' e (⟨k.toNat, 0, (h.toNat * 256 + l.toNat : Nat), cc0⟩, 3) := by
  obtain ⟨V, hV, hs, g0, hB⟩ := alloc1 w (.cells Z12 29)
  obtain ⟨g, off, rfl, hg⟩ := hb.head
  have hbV := hb.below hB
  have c0 := hbV.at' (k := 0) rfl
  have c1 := hbV.at' (k := 1) rfl
  have c2 := hbV.at' (k := 2) rfl
  simp only [Nat.add_zero] at c0
  have hor := or_bits h.toNat l.toNat (by have := h.toNat_lt; omega) l.toNat_lt
  generalize hN : h.toNat * 256 + l.toNat = N at *
  obtain ⟨X, hX, hXs, hXB⟩ : ∃ X, X = 0 ∧ X = 0 ∧ True := ⟨0, rfl, rfl, trivial⟩
  obtain ⟨X1, X2, X3, X4, X5, X6, X7, X8, X9, X10, X11, X12, ⟨y1, y2, y3, y4, y5, y6, y7, y8, y9, y10, y11, y12⟩, ⟨s1, s2, s3, s4, s5, s6, s7, s8, s9, s10, s11, s12⟩, ⟨f1, f2, f3, f4, f5, f6, f7, f8, f9, f10, f11, f12⟩, gX, grX⟩ := store12 g0 (I (k.toNat : Nat)) (I 0) (I (N : Nat)) (I 0) (.string ⟨#[]⟩) (.string ⟨#[]⟩) (I 0) (I 0) (I 0) (I 0) (I 0) (.slice none 0 0)
  have z0 : X12.cell? ⟨w.heap.size, 0, none⟩ = some (I (k.toNat : Nat)) := by rw [cell_of gX]; rfl
  have z1 : X12.cell? ⟨w.heap.size, 1, none⟩ = some (I 0) := by rw [cell_of gX]; rfl
  have z2 : X12.cell? ⟨w.heap.size, 2, none⟩ = some (I (N : Nat)) := by rw [cell_of gX]; rfl
  have z3 : X12.cell? ⟨w.heap.size, 3, none⟩ = some (I 0) := by rw [cell_of gX]; rfl
  have z4 : X12.cell? ⟨w.heap.size, 4, none⟩ = some (.string ⟨#[]⟩) := by rw [cell_of gX]; rfl
  have z5 : X12.cell? ⟨w.heap.size, 5, none⟩ = some (.string ⟨#[]⟩) := by rw [cell_of gX]; rfl
  have z6 : X12.cell? ⟨w.heap.size, 6, none⟩ = some (I 0) := by rw [cell_of gX]; rfl
  have z7 : X12.cell? ⟨w.heap.size, 7, none⟩ = some (I 0) := by rw [cell_of gX]; rfl
  have z8 : X12.cell? ⟨w.heap.size, 8, none⟩ = some (I 0) := by rw [cell_of gX]; rfl
  have z9 : X12.cell? ⟨w.heap.size, 9, none⟩ = some (I 0) := by rw [cell_of gX]; rfl
  have z10 : X12.cell? ⟨w.heap.size, 10, none⟩ = some (I 0) := by rw [cell_of gX]; rfl
  have z11 : X12.cell? ⟨w.heap.size, 11, none⟩ = some (.slice none 0 0) := by rw [cell_of gX]; rfl
  have hq : ¬ (n : Int) < 3 := by omega
  have q0 : (0 : Int) < (n : Int) := by omega
  have q1 : (1 : Int) < (n : Int) := by omega
  have q2 : (2 : Int) < (n : Int) := by omega
  have q3 : 0 < n := by omega
  have q4 : 1 < n := by omega
  have q5 : 2 < n := by omega
  have u0 := k.toNat_lt
  have u1 := h.toNat_lt
  have u2 := l.toNat_lt
  have HB := hide (hB.trans (grX.below (Nat.le_refl _) (by omega)))
  clear hB g0 hs gX grX hn hbV hb hg hX hXs hXB hN
  go_enter Try.func46, Try.ntmps46
  go_wp2_with fail
  go_region
  all_goals go_wp2_with fail
  all_goals exact bodyPost_ret (v := .tuple #[.agg #[I (k.toNat : Nat), I 0, I (N : Nat), I 0, .string ⟨#[]⟩, .string ⟨#[]⟩, I 0, I 0, I 0, I 0, I 0, .slice none 0 0], I 3]) (by simp [results, Try.results46, go_sem, z0, z1, z2, z3, z4, z5, z6, z7, z8, z9, z10, z11]) rfl (Fo.of (d := .slice none 0 0) rfl (Dt.nil _ _) (by first | exact unhide HB | exact below_drew (unhide HB)))
end Go.Proofs.Ytcopjhidijhlaaa.Cl
