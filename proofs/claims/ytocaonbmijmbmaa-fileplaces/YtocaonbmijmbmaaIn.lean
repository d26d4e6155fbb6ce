/-
  What a walk is told of calls that came in.
-/
import Derived.Test.YtocaonbmijmbmaaBase
import Derived.ProofKit
import Derived.Deep.Slices
import Derived.SliceStrings
import Derived.WideShapes
namespace Go.Proofs.Ytocaonbmijmbmaa
open Go.ChangeShapes Go.WideShapes Go.ChangeAt Go.RowKit Go.Deep

abbrev kl (k : Int) : Lit := .int .i64 k
theorem spot_none' {w : World} {b off : Nat} {sp : Option Nat} {v : Value} (h : w.cell? ⟨b, off, sp⟩ = some v) : sp = none := by
  unfold World.cell? at h
  cases sp with
  | none => rfl
  | some s => cases hq : w.heap[b]? with
    | none => simp [hq] at h
    | some o => cases o <;> simp [hq] at h
theorem lt_of_cell {w : World} {b o : Nat} {v : Value} (h : w.cell? ⟨b, o, none⟩ = some v) : b < w.heap.size := by
  rcases Nat.lt_or_ge b w.heap.size with h1 | h1
  · exact h1
  · simp [World.cell?, Array.getElem?_eq_none h1] at h
theorem cells3 : Try.prog.cellsOf 3 = 1 := by kernel_rfl
theorem cellsP : Try.prog.cellsOf 29 = 2 := by kernel_rfl
theorem cellsA : Try.prog.cellsOf 44 = 7 := by kernel_rfl
theorem max_le' : maxLen ≤ 9223372036854775807 := by decide
theorem add_add (b : Addr) (i j : Nat) : (b.add i).add j = b.add (i + j) := by
  unfold Addr.add
  by_cases hi : i = 0
  · subst hi; simp
  · by_cases hj : j = 0
    · subst hj; simp [hi]
    · simp [hi, hj, Nat.add_assoc]
/-- A call that came in. -/
structure AskAt (W : World) (b o : Nat) (kd p d f s m k : Int) : Prop where
  c0 : W.cell? ⟨b, o, none⟩ = some (I kd)
  c1 : W.cell? ⟨b, o + 1, none⟩ = some (I p)
  c2 : W.cell? ⟨b, o + 2, none⟩ = some (I d)
  c3 : W.cell? ⟨b, o + 3, none⟩ = some (I f)
  c4 : W.cell? ⟨b, o + 4, none⟩ = some (I s)
  c5 : W.cell? ⟨b, o + 5, none⟩ = some (I m)
  c6 : W.cell? ⟨b, o + 6, none⟩ = some (I k)
  w0 : (kl kd).wf = true
  w1 : (kl p).wf = true
  w2 : (kl d).wf = true
  w3 : (kl f).wf = true
  w4 : (kl s).wf = true
  w5 : (kl m).wf = true
  w6 : (kl k).wf = true
def AsksAt (W : World) (pa : Option Addr) (len : Nat) : Prop := len ≤ 9223372036854775807 ∧ ∀ i, i < len → ∃ b off kd p d f s m k, pa = some ⟨b, off, none⟩ ∧ b < W.heap.size ∧ AskAt W b (off + i * 7) kd p d f s m k
theorem AskAt.below {B : Nat} {W W' : World} {b o : Nat} {kd p d f s m k : Int} (h : AskAt W b o kd p d f s m k) (hb : b < B) (g : Below B W W') : AskAt W' b o kd p d f s m k := by
  have hs : ∀ i, W'.cell? ⟨b, i, none⟩ = W.cell? ⟨b, i, none⟩ := fun i => World.cell?_of_block (g.block b hb)
  exact ⟨(hs _).trans h.c0, (hs _).trans h.c1, (hs _).trans h.c2, (hs _).trans h.c3, (hs _).trans h.c4, (hs _).trans h.c5, (hs _).trans h.c6, h.w0, h.w1, h.w2, h.w3, h.w4, h.w5, h.w6⟩
set_option maxRecDepth 100000 in
set_option maxHeartbeats 1000000 in
theorem asks_of {H : Type} {enc : TypeId × Value → H} {w : World} {held : Bool} {fuel : Nat} {a : Option Addr} {len cap : Nat} {x : DataW H × List MemPlace}
    (h : DataW.trod enc Try.prog w 0 (fun _ => true) held fuel 40 [.slice a len cap] = some x) : AsksAt w a len := by
  rcases open_slice Try.underlying40 h with ⟨hcs, _⟩ | ⟨y, l, c, m, n, D, Pl, hcs, _, hl, hm, hmm, _, hx⟩
  · simp at hcs
    obtain ⟨rfl, rfl, rfl⟩ := hcs
    exact ⟨Nat.zero_le _, fun i hi => absurd hi (Nat.not_lt_zero _)⟩
  · simp at hcs
    obtain ⟨rfl, rfl, rfl⟩ := hcs
    simp at hmm
    subst hmm
    have hml := max_le'
    refine ⟨by omega, fun i hi => ?_⟩
    have key : ∀ j, j ≤ i → ∃ (kd p d f s m k : Int), w.cell? (y.add (j * 7)) = some (I kd) ∧ w.cell? (y.add (j * 7 + 1)) = some (I p) ∧ w.cell? (y.add (j * 7 + 2)) = some (I d) ∧ w.cell? (y.add (j * 7 + 3)) = some (I f) ∧ w.cell? (y.add (j * 7 + 4)) = some (I s) ∧ w.cell? (y.add (j * 7 + 5)) = some (I m) ∧ w.cell? (y.add (j * 7 + 6)) = some (I k) ∧ (kl kd).wf = true ∧ (kl p).wf = true ∧ (kl d).wf = true ∧ (kl f).wf = true ∧ (kl s).wf = true ∧ (kl m).wf = true ∧ (kl k).wf = true := by
      intro j hj
      obtain ⟨cs', h1, h2⟩ := hx j (by omega)
      rw [cellsA] at h1
      obtain ⟨_, hlen, hcell⟩ := World.cells?_some h1
      obtain ⟨xs, k, hk, hxy, _, hxl, hf⟩ := DataW.trod_struct Try.underlying44 h2
      match xs, hxl, cs', hlen with
      | [y0, y1, y2, y3, y4, y5], _, [v0, v1, v2, v3, v4, v5, v6], _ =>
        have g0 := hf 0 _ rfl
        have g1 := hf 1 _ rfl
        have g2 := hf 2 _ rfl
        have g3 := hf 3 _ rfl
        have g4 := hf 4 _ rfl
        have g5 := hf 5 _ rfl
        simp [cells3, cellsP] at g0 g1 g2 g3 g4 g5
        obtain ⟨n0, e0, _, m0⟩ := DataW.trod_int Try.underlying3 g0
        obtain ⟨n1, e1, _, m1⟩ := DataW.trod_int Try.underlying3 g1
        obtain ⟨n2, e2, _, m2⟩ := DataW.trod_int Try.underlying3 g2
        obtain ⟨n3, e3, _, m3⟩ := DataW.trod_int Try.underlying3 g3
        obtain ⟨n4, e4, _, m4⟩ := DataW.trod_int Try.underlying3 g4
        simp at e0 e1 e2 e3 e4
        subst e0 e1 e2 e3 e4
        obtain ⟨xs6, k6, hk6, hxy6, _, hxl6, hf6⟩ := DataW.trod_struct Try.underlying29 g5
        match xs6, hxl6 with
        | [z0, z1], _ =>
          have j0 := hf6 0 _ rfl
          have j1 := hf6 1 _ rfl
          simp [cells3] at j0 j1
          obtain ⟨i0, d0, _, l0⟩ := DataW.trod_int Try.underlying3 j0
          obtain ⟨i1, d1, _, l1⟩ := DataW.trod_int Try.underlying3 j1
          simp at d0 d1
          subst d0 d1
          have q0 := hcell 0 (by omega)
          have q1 := hcell 1 (by omega)
          have q2 := hcell 2 (by omega)
          have q3 := hcell 3 (by omega)
          have q4 := hcell 4 (by omega)
          have q5 := hcell 5 (by omega)
          have q6 := hcell 6 (by omega)
          rw [add_add] at q0 q1 q2 q3 q4 q5 q6
          exact ⟨n0, n1, n2, n3, n4, i0, i1, by simpa using q0, by simpa using q1, by simpa using q2, by simpa using q3, by simpa using q4, by simpa using q5, by simpa using q6, m0, m1, m2, m3, m4, l0, l1⟩
    obtain ⟨_, _, _, _, _, _, _, c0, -⟩ := key 0 (by omega)
    obtain ⟨kd, p, d, f, s, m, k, q0, q1, q2, q3, q4, q5, q6, w0, w1, w2, w3, w4, w5, w6⟩ := key i (by omega)
    obtain ⟨b, off, sp⟩ := y
    have e : (⟨b, off, sp⟩ : Addr).add (0 * 7) = ⟨b, off, sp⟩ := rfl
    rw [e] at c0
    obtain rfl := spot_none' c0
    rw [Addr.add_mid] at q0 q1 q2 q3 q4 q5 q6
    exact ⟨b, off, kd, p, d, f, s, m, k, rfl, lt_of_cell q0, ⟨q0, by simpa [Nat.add_assoc] using q1, by simpa [Nat.add_assoc] using q2, by simpa [Nat.add_assoc] using q3, by simpa [Nat.add_assoc] using q4, by simpa [Nat.add_assoc] using q5, by simpa [Nat.add_assoc] using q6, w0, w1, w2, w3, w4, w5, w6⟩⟩
end Go.Proofs.Ytocaonbmijmbmaa
