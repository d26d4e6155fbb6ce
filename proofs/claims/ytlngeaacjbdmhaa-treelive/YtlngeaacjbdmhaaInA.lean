/-
  What a walk is told of calls that came in.
-/
import Derived.Test.YtlngeaacjbdmhaaTame
import Derived.ProofKit
import Derived.Deep.Slices
import Derived.SliceStrings
namespace Go.Proofs.Ytlngeaacjbdmhaa
open Go.ChangeShapes Go.WideShapes Go.ChangeAt Go.RowKit Go.Deep

theorem spot_none' {w : World} {b off : Nat} {sp : Option Nat} {v : Value} (h : w.cell? ⟨b, off, sp⟩ = some v) : sp = none := by
  unfold World.cell? at h
  cases sp with
  | none => rfl
  | some s => cases hq : w.heap[b]? with
    | none => simp [hq] at h
    | some o => cases o <;> simp [hq] at h
theorem cells5 : Try.prog.cellsOf 5 = 1 := by kernel_rfl
theorem cells3 : Try.prog.cellsOf 3 = 1 := by kernel_rfl
theorem cells9 : Try.prog.cellsOf 9 = 1 := by kernel_rfl
theorem cellsB : Try.prog.cellsOf 30 = 1 := by kernel_rfl
theorem cellsS : Try.prog.cellsOf 29 = 7 := by kernel_rfl
theorem cellsA : Try.prog.cellsOf 32 = 14 := by kernel_rfl
theorem max_le' : maxLen ≤ 9223372036854775807 := by decide
theorem add_add (b : Addr) (i j : Nat) : (b.add i).add j = b.add (i + j) := by
  unfold Addr.add
  by_cases hi : i = 0
  · subst hi; simp
  · by_cases hj : j = 0
    · subst hj; simp [hi]
    · simp [hi, hj, Nat.add_assoc]
/-- A call that came in. -/
structure AskAt (W : World) (b o : Nat) (kd dr to n : Int) (s r : ByteArray) (a0 a1 a2 a3 a4 a5 a6 : Int) (ba : Option Addr) (bn bc : Nat) : Prop where
  c0 : W.cell? ⟨b, o, none⟩ = some (I kd)
  c1 : W.cell? ⟨b, o + 1, none⟩ = some (I dr)
  c2 : W.cell? ⟨b, o + 2, none⟩ = some (I to)
  c3 : W.cell? ⟨b, o + 3, none⟩ = some (I n)
  c4 : W.cell? ⟨b, o + 4, none⟩ = some (.string s)
  c5 : W.cell? ⟨b, o + 5, none⟩ = some (.string r)
  c6 : W.cell? ⟨b, o + 6, none⟩ = some (I a0)
  c7 : W.cell? ⟨b, o + 7, none⟩ = some (I a1)
  c8 : W.cell? ⟨b, o + 8, none⟩ = some (I a2)
  c9 : W.cell? ⟨b, o + 9, none⟩ = some (I a3)
  c10 : W.cell? ⟨b, o + 10, none⟩ = some (I a4)
  c11 : W.cell? ⟨b, o + 11, none⟩ = some (I a5)
  c12 : W.cell? ⟨b, o + 12, none⟩ = some (I a6)
  c13 : W.cell? ⟨b, o + 13, none⟩ = some (.slice ba bn bc)
  ws : s.size ≤ 9223372036854775807
  wr : r.size ≤ 9223372036854775807
  w0 : (kl kd).wf = true
  w1 : (kl dr).wf = true
  w2 : (kl to).wf = true
  w3 : (kl n).wf = true
  w6 : (kl a0).wf = true
  w7 : (kl a1).wf = true
  w8 : (kl a2).wf = true
  w9 : (kl a3).wf = true
  w10 : (kl a4).wf = true
  w11 : (kl a5).wf = true
  w12 : (kl a6).wf = true
def AsksAt (W : World) (pa : Option Addr) (len : Nat) : Prop := len ≤ 9223372036854775807 ∧ ∀ i, i < len → ∃ b off kd dr to n s r a0 a1 a2 a3 a4 a5 a6 ba bn bc, pa = some ⟨b, off, none⟩ ∧ b < W.heap.size ∧ AskAt W b (off + i * 14) kd dr to n s r a0 a1 a2 a3 a4 a5 a6 ba bn bc
theorem AskAt.below {W W' : World} {b o : Nat} {kd dr to n : Int} {s r : ByteArray} {a0 a1 a2 a3 a4 a5 a6 : Int} {ba : Option Addr} {bn bc : Nat} (h : AskAt W b o kd dr to n s r a0 a1 a2 a3 a4 a5 a6 ba bn bc) (g : Below W.heap.size W W') : AskAt W' b o kd dr to n s r a0 a1 a2 a3 a4 a5 a6 ba bn bc := by
  have hl := lt_of_cell h.c0
  have hs := fun i => cell_same (g.block b hl) i
  exact ⟨(hs _).trans h.c0, (hs _).trans h.c1, (hs _).trans h.c2, (hs _).trans h.c3, (hs _).trans h.c4, (hs _).trans h.c5, (hs _).trans h.c6, (hs _).trans h.c7, (hs _).trans h.c8, (hs _).trans h.c9, (hs _).trans h.c10, (hs _).trans h.c11, (hs _).trans h.c12, (hs _).trans h.c13, h.ws, h.wr, h.w0, h.w1, h.w2, h.w3, h.w6, h.w7, h.w8, h.w9, h.w10, h.w11, h.w12⟩
theorem AsksAt.below {W W' : World} {pa : Option Addr} {len : Nat} (h : AsksAt W pa len) (g : Below W.heap.size W W') : AsksAt W' pa len :=
  ⟨h.1, fun i hi => by
    obtain ⟨b, off, kd, dr, to, n, s, r, a0, a1, a2, a3, a4, a5, a6, ba, bn, bc, h1, h2, h3⟩ := h.2 i hi
    exact ⟨b, off, kd, dr, to, n, s, r, a0, a1, a2, a3, a4, a5, a6, ba, bn, bc, h1, Nat.lt_of_lt_of_le h2 g.size, h3.below g⟩⟩
set_option maxRecDepth 100000 in
set_option maxHeartbeats 1000000 in
theorem asks_of {H : Type} {enc : TypeId × Value → H} {w : World} {held : Bool} {fuel : Nat} {a : Option Addr} {len cap : Nat} {x : DataW H × List MemPlace}
    (h : DataW.trod enc Try.prog w 0 (fun _ => true) held fuel 22 [.slice a len cap] = some x) : AsksAt w a len := by
  rcases open_slice Try.underlying22 h with ⟨hcs, _⟩ | ⟨y, l, c, m, n, D, Pl, hcs, _, hl, hm, hmm, _, hx⟩
  · simp at hcs
    obtain ⟨rfl, rfl, rfl⟩ := hcs
    exact ⟨Nat.zero_le _, fun i hi => absurd hi (Nat.not_lt_zero _)⟩
  · simp at hcs
    obtain ⟨rfl, rfl, rfl⟩ := hcs
    simp at hmm
    subst hmm
    have hml := max_le'
    refine ⟨by omega, fun i hi => ?_⟩
    have key : ∀ j, j ≤ i → ∃ (kd dr to n : Int) (s r : ByteArray) (a0 a1 a2 a3 a4 a5 a6 : Int) (ba : Option Addr) (bn bc : Nat), w.cell? (y.add (j * 14)) = some (I kd) ∧ w.cell? (y.add (j * 14 + 1)) = some (I dr) ∧ w.cell? (y.add (j * 14 + 2)) = some (I to) ∧ w.cell? (y.add (j * 14 + 3)) = some (I n) ∧ w.cell? (y.add (j * 14 + 4)) = some (.string s) ∧ w.cell? (y.add (j * 14 + 5)) = some (.string r) ∧ w.cell? (y.add (j * 14 + 6)) = some (I a0) ∧ w.cell? (y.add (j * 14 + 7)) = some (I a1) ∧ w.cell? (y.add (j * 14 + 8)) = some (I a2) ∧ w.cell? (y.add (j * 14 + 9)) = some (I a3) ∧ w.cell? (y.add (j * 14 + 10)) = some (I a4) ∧ w.cell? (y.add (j * 14 + 11)) = some (I a5) ∧ w.cell? (y.add (j * 14 + 12)) = some (I a6) ∧ w.cell? (y.add (j * 14 + 13)) = some (.slice ba bn bc) ∧ s.size ≤ 9223372036854775807 ∧ r.size ≤ 9223372036854775807 ∧ (kl kd).wf = true ∧ (kl dr).wf = true ∧ (kl to).wf = true ∧ (kl n).wf = true ∧ (kl a0).wf = true ∧ (kl a1).wf = true ∧ (kl a2).wf = true ∧ (kl a3).wf = true ∧ (kl a4).wf = true ∧ (kl a5).wf = true ∧ (kl a6).wf = true := by
      intro j hj
      obtain ⟨cs', h1, h2⟩ := hx j (by omega)
      rw [cellsA] at h1
      obtain ⟨_, hlen, hcell⟩ := World.cells?_some h1
      obtain ⟨xs, k, hk, hxy, _, hxl, hf⟩ := DataW.trod_struct Try.underlying32 h2
      match xs, hxl, cs', hlen with
      | [y0, y1, y2, y3, y4, y5, y6, y7], _, [v0, v1, v2, v3, v4, v5, v6, v7, v8, v9, v10, v11, v12, v13], _ =>
        have g0 := hf 0 _ rfl
        have g1 := hf 1 _ rfl
        have g2 := hf 2 _ rfl
        have g3 := hf 3 _ rfl
        have g4 := hf 4 _ rfl
        have g5 := hf 5 _ rfl
        have g6 := hf 6 _ rfl
        have g7 := hf 7 _ rfl
        simp [cells3, cells9, cellsS, cellsB] at g0 g1 g2 g3 g4 g5 g6 g7
        obtain ⟨n0, e0, _, m0⟩ := DataW.trod_int Try.underlying3 g0
        obtain ⟨n1, e1, _, m1⟩ := DataW.trod_int Try.underlying3 g1
        obtain ⟨n2, e2, _, m2⟩ := DataW.trod_int Try.underlying3 g2
        obtain ⟨n3, e3, _, m3⟩ := DataW.trod_int Try.underlying3 g3
        obtain ⟨t4, e4, _, m4⟩ := DataW.trod_string Try.underlying9 g4
        obtain ⟨t5, e5, _, m5⟩ := DataW.trod_string Try.underlying9 g5
        simp at e0 e1 e2 e3 e4 e5
        subst e0 e1 e2 e3 e4 e5
        obtain ⟨xs6, k6, hk6, hxy6, _, hxl6, hf6⟩ := DataW.trod_struct Try.underlying29 g6
        match xs6, hxl6 with
        | [z0, z1, z2, z3, z4, z5, z6], _ =>
          have j0 := hf6 0 _ rfl
          have j1 := hf6 1 _ rfl
          have j2 := hf6 2 _ rfl
          have j3 := hf6 3 _ rfl
          have j4 := hf6 4 _ rfl
          have j5 := hf6 5 _ rfl
          have j6 := hf6 6 _ rfl
          simp [cells3] at j0 j1 j2 j3 j4 j5 j6
          obtain ⟨i0, d0, _, l0⟩ := DataW.trod_int Try.underlying3 j0
          obtain ⟨i1, d1, _, l1⟩ := DataW.trod_int Try.underlying3 j1
          obtain ⟨i2, d2, _, l2⟩ := DataW.trod_int Try.underlying3 j2
          obtain ⟨i3, d3, _, l3⟩ := DataW.trod_int Try.underlying3 j3
          obtain ⟨i4, d4, _, l4⟩ := DataW.trod_int Try.underlying3 j4
          obtain ⟨i5, d5, _, l5⟩ := DataW.trod_int Try.underlying3 j5
          obtain ⟨i6, d6, _, l6⟩ := DataW.trod_int Try.underlying3 j6
          simp at d0 d1 d2 d3 d4 d5 d6
          subst d0 d1 d2 d3 d4 d5 d6
          have e13 : ∃ ba bn bc, v13 = .slice ba bn bc := by
            rcases open_ints Try.underlying30 Try.underlying5 cells5 g7 with ⟨hcs, _⟩ | ⟨y, l, c, zs, hcs, _⟩
            · simp at hcs; exact ⟨_, _, _, hcs⟩
            · simp at hcs; exact ⟨_, _, _, hcs⟩
          obtain ⟨ba, bn, bc, rfl⟩ := e13
          have q0 := hcell 0 (by omega)
          have q1 := hcell 1 (by omega)
          have q2 := hcell 2 (by omega)
          have q3 := hcell 3 (by omega)
          have q4 := hcell 4 (by omega)
          have q5 := hcell 5 (by omega)
          have q6 := hcell 6 (by omega)
          have q7 := hcell 7 (by omega)
          have q8 := hcell 8 (by omega)
          have q9 := hcell 9 (by omega)
          have q10 := hcell 10 (by omega)
          have q11 := hcell 11 (by omega)
          have q12 := hcell 12 (by omega)
          have q13 := hcell 13 (by omega)
          rw [add_add] at q0 q1 q2 q3 q4 q5 q6 q7 q8 q9 q10 q11 q12 q13
          exact ⟨n0, n1, n2, n3, t4, t5, i0, i1, i2, i3, i4, i5, i6, ba, bn, bc, by simpa using q0, by simpa using q1, by simpa using q2, by simpa using q3, by simpa using q4, by simpa using q5, by simpa using q6, by simpa using q7, by simpa using q8, by simpa using q9, by simpa using q10, by simpa using q11, by simpa using q12, by simpa using q13, by omega, by omega, m0, m1, m2, m3, l0, l1, l2, l3, l4, l5, l6⟩
    obtain ⟨_, _, _, _, _, _, _, _, _, _, _, _, _, _, _, _, c0, -⟩ := key 0 (by omega)
    obtain ⟨kd, dr, to, n, s, r, a0, a1, a2, a3, a4, a5, a6, ba, bn, bc, q0, q1, q2, q3, q4, q5, q6, q7, q8, q9, q10, q11, q12, q13, ws, wr, w0, w1, w2, w3, w6, w7, w8, w9, w10, w11, w12⟩ := key i (by omega)
    obtain ⟨b, off, sp⟩ := y
    have e : (⟨b, off, sp⟩ : Addr).add (0 * 14) = ⟨b, off, sp⟩ := rfl
    rw [e] at c0
    obtain rfl := spot_none' c0
    rw [Addr.add_mid] at q0 q1 q2 q3 q4 q5 q6 q7 q8 q9 q10 q11 q12 q13
    exact ⟨b, off, kd, dr, to, n, s, r, a0, a1, a2, a3, a4, a5, a6, ba, bn, bc, rfl, lt_of_cell q0, ⟨q0, by simpa [Nat.add_assoc] using q1, by simpa [Nat.add_assoc] using q2, by simpa [Nat.add_assoc] using q3, by simpa [Nat.add_assoc] using q4, by simpa [Nat.add_assoc] using q5, by simpa [Nat.add_assoc] using q6, by simpa [Nat.add_assoc] using q7, by simpa [Nat.add_assoc] using q8, by simpa [Nat.add_assoc] using q9, by simpa [Nat.add_assoc] using q10, by simpa [Nat.add_assoc] using q11, by simpa [Nat.add_assoc] using q12, by simpa [Nat.add_assoc] using q13, ws, wr, w0, w1, w2, w3, w6, w7, w8, w9, w10, w11, w12⟩⟩
end Go.Proofs.Ytlngeaacjbdmhaa
