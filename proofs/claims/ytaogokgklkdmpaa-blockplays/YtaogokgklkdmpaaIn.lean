/-
  What a walk is told of slices of bytes, and of calls, that came in.
-/
import Derived.Test.YtaogokgklkdmpaaKnown
import Derived.ProofKit
import Derived.Deep.Slices
import Derived.SliceStrings
namespace Go.Proofs.Ytaogokgklkdmpaa
open Go.ChangeShapes Go.WideShapes Go.ChangeAt Go.RowKit Go.Deep

theorem spot_none {w : World} {b off : Nat} {sp : Option Nat} {v : Value} (h : w.cell? ⟨b, off, sp⟩ = some v) : sp = none := by
  unfold World.cell? at h
  cases sp with
  | none => rfl
  | some s => cases hq : w.heap[b]? with
    | none => simp [hq] at h
    | some o => cases o <;> simp [hq] at h
theorem cells5 : Try.prog.cellsOf 5 = 1 := by kernel_rfl
theorem cells3 : Try.prog.cellsOf 3 = 1 := by kernel_rfl
theorem cells28 : Try.prog.cellsOf 28 = 1 := by kernel_rfl
theorem cells39 : Try.prog.cellsOf 39 = 5 := by kernel_rfl
theorem max_le : maxLen ≤ 9223372036854775807 := by decide
/-- Bytes that came in. -/
def BytesAt (W : World) (a : Option Addr) (n cap : Nat) : Prop := n ≤ 9223372036854775807 ∧ n ≤ cap ∧ cap ≤ 9223372036854775807 ∧ ∃ g, In W a n cap g
theorem In.keep {W W' : World} {a : Option Addr} {n cap : Nat} {g : Nat → Int} (h : In W a n cap g) (k : ∀ b : Nat, b < W.heap.size → W'.heap[b]? = W.heap[b]?) : In W' a n cap g := fun hn => by
  obtain ⟨sb, so, h1, h2, h3⟩ := h hn
  exact ⟨sb, so, h1, fun j hj => (cell_same (k sb (h2.lt hn)) _).trans (h2 j hj), h3⟩
theorem In.below {W W' : World} {a : Option Addr} {n cap : Nat} {g : Nat → Int} (h : In W a n cap g) (k : Below W.heap.size W W') : In W' a n cap g := h.keep k.block
theorem BytesAt.below {W W' : World} {a : Option Addr} {n cap : Nat} (h : BytesAt W a n cap) (k : Below W.heap.size W W') : BytesAt W' a n cap := let ⟨h1, h2, h3, g, h4⟩ := h; ⟨h1, h2, h3, g, h4.below k⟩
theorem bytes_of {H : Type} {enc : TypeId × Value → H} {w : World} {held : Bool} {fuel : Nat} {a : Option Addr} {len cap : Nat} {x : DataW H × List MemPlace}
    (h : DataW.trod enc Try.prog w 0 (fun _ => true) held fuel 28 [.slice a len cap] = some x) : BytesAt w a len cap := by
  rcases open_ints Try.underlying28 Try.underlying5 cells5 h with ⟨hcs, _⟩ | ⟨y, l, c, zs, hcs, _, hl, hm, hlen, _, hcell, _⟩
  · simp at hcs
    obtain ⟨rfl, rfl, rfl⟩ := hcs
    exact ⟨Nat.zero_le _, Nat.le_refl _, Nat.zero_le _, fun _ => 0, fun h0 => absurd h0 (by omega)⟩
  · simp at hcs
    obtain ⟨rfl, rfl, rfl⟩ := hcs
    have hml := max_le
    simp at hlen
    refine ⟨by omega, hl, by omega, fun i => zs.getD i 0, fun h0 => ?_⟩
    have c0 := hcell 0 (by omega)
    obtain ⟨b, off, sp⟩ := y
    have e : (⟨b, off, sp⟩ : Addr).add 0 = ⟨b, off, sp⟩ := rfl
    rw [e] at c0
    obtain rfl := spot_none c0
    refine ⟨b, off, rfl, fun j hj => ?_, hl⟩
    have c1 := hcell j (by omega)
    rw [Addr.add_mid] at c1
    exact c1
/-- A call that came in. -/
structure AskAt (W : World) (b o : Nat) (kd f a n : Int) (ba : Option Addr) (bn bc : Nat) : Prop where
  c0 : W.cell? ⟨b, o, none⟩ = some (I kd)
  c1 : W.cell? ⟨b, o + 1, none⟩ = some (I f)
  c2 : W.cell? ⟨b, o + 2, none⟩ = some (I a)
  c3 : W.cell? ⟨b, o + 3, none⟩ = some (I n)
  c4 : W.cell? ⟨b, o + 4, none⟩ = some (.slice ba bn bc)
  wk : (kl kd).wf = true
  wf : (kl f).wf = true
  wa : (kl a).wf = true
  wn : (kl n).wf = true
  hb : BytesAt W ba bn bc
def AsksAt (W : World) (pa : Option Addr) (len : Nat) : Prop := len ≤ 9223372036854775807 ∧ ∀ i, i < len → ∃ b off kd f a n ba bn bc, pa = some ⟨b, off, none⟩ ∧ b < W.heap.size ∧ AskAt W b (off + i * 5) kd f a n ba bn bc
theorem AskAt.below {W W' : World} {b o : Nat} {kd f a n : Int} {ba : Option Addr} {bn bc : Nat} (h : AskAt W b o kd f a n ba bn bc) (g : Below W.heap.size W W') : AskAt W' b o kd f a n ba bn bc := by
  have hl := lt_of_cell h.c0
  have hs := fun i => cell_same (g.block b hl) i
  exact ⟨(hs _).trans h.c0, (hs _).trans h.c1, (hs _).trans h.c2, (hs _).trans h.c3, (hs _).trans h.c4, h.wk, h.wf, h.wa, h.wn, h.hb.below g⟩
theorem AsksAt.below {W W' : World} {pa : Option Addr} {len : Nat} (h : AsksAt W pa len) (g : Below W.heap.size W W') : AsksAt W' pa len :=
  ⟨h.1, fun i hi => by
    obtain ⟨b, off, kd, f, a, n, ba, bn, bc, h1, h2, h3⟩ := h.2 i hi
    exact ⟨b, off, kd, f, a, n, ba, bn, bc, h1, Nat.lt_of_lt_of_le h2 g.size, h3.below g⟩⟩
theorem add_add (b : Addr) (i j : Nat) : (b.add i).add j = b.add (i + j) := by
  unfold Addr.add
  by_cases hi : i = 0
  · subst hi; simp
  · by_cases hj : j = 0
    · subst hj; simp [hi]
    · simp [hi, hj, Nat.add_assoc]
set_option maxRecDepth 100000 in
theorem asks_of {H : Type} {enc : TypeId × Value → H} {w : World} {held : Bool} {fuel : Nat} {a : Option Addr} {len cap : Nat} {x : DataW H × List MemPlace}
    (h : DataW.trod enc Try.prog w 0 (fun _ => true) held fuel 35 [.slice a len cap] = some x) : AsksAt w a len := by
  rcases open_slice Try.underlying35 h with ⟨hcs, _⟩ | ⟨y, l, c, m, n, D, Pl, hcs, _, hl, hm, hmm, _, hx⟩
  · simp at hcs
    obtain ⟨rfl, rfl, rfl⟩ := hcs
    exact ⟨Nat.zero_le _, fun i hi => absurd hi (Nat.not_lt_zero _)⟩
  · simp at hcs
    obtain ⟨rfl, rfl, rfl⟩ := hcs
    simp at hmm
    subst hmm
    have hml := max_le
    refine ⟨by omega, fun i hi => ?_⟩
    have key : ∀ j, j ≤ i → ∃ (kd f a n : Int) (ba : Option Addr) (bn bc : Nat), w.cell? (y.add (j * 5)) = some (I kd) ∧ w.cell? (y.add (j * 5 + 1)) = some (I f) ∧ w.cell? (y.add (j * 5 + 2)) = some (I a) ∧ w.cell? (y.add (j * 5 + 3)) = some (I n) ∧ w.cell? (y.add (j * 5 + 4)) = some (.slice ba bn bc) ∧ (kl kd).wf = true ∧ (kl f).wf = true ∧ (kl a).wf = true ∧ (kl n).wf = true ∧ BytesAt w ba bn bc := by
      intro j hj
      obtain ⟨cs', h1, h2⟩ := hx j (by omega)
      rw [cells39] at h1
      obtain ⟨_, hlen, hcell⟩ := World.cells?_some h1
      obtain ⟨xs, k, hk, hxy, _, hxl, hf⟩ := DataW.trod_struct Try.underlying39 h2
      match xs, hxl, cs', hlen with
      | [y0, y1, y2, y3, y4], _, [v0, v1, v2, v3, v4], _ =>
        have g0 := hf 0 _ rfl
        have g1 := hf 1 _ rfl
        have g2 := hf 2 _ rfl
        have g3 := hf 3 _ rfl
        have g4 := hf 4 _ rfl
        simp [cells3, cells28] at g0 g1 g2 g3 g4
        obtain ⟨n0, e0, _, m0⟩ := DataW.trod_int Try.underlying3 g0
        obtain ⟨n1, e1, _, m1⟩ := DataW.trod_int Try.underlying3 g1
        obtain ⟨n2, e2, _, m2⟩ := DataW.trod_int Try.underlying3 g2
        obtain ⟨n3, e3, _, m3⟩ := DataW.trod_int Try.underlying3 g3
        simp at e0 e1 e2 e3
        subst e0 e1 e2 e3
        have e4 : ∃ ba bn bc, v4 = .slice ba bn bc := by
          rcases open_ints Try.underlying28 Try.underlying5 cells5 g4 with ⟨hcs, _⟩ | ⟨y, l, c, zs, hcs, _⟩
          · simp at hcs; exact ⟨_, _, _, hcs⟩
          · simp at hcs; exact ⟨_, _, _, hcs⟩
        obtain ⟨ba, bn, bc, rfl⟩ := e4
        have q0 := hcell 0 (by omega)
        have q1 := hcell 1 (by omega)
        have q2 := hcell 2 (by omega)
        have q3 := hcell 3 (by omega)
        have q4 := hcell 4 (by omega)
        rw [add_add] at q0 q1 q2 q3 q4
        exact ⟨n0, n1, n2, n3, ba, bn, bc, by simpa using q0, by simpa using q1, by simpa using q2, by simpa using q3, by simpa using q4, m0, m1, m2, m3, bytes_of g4⟩
    obtain ⟨_, _, _, _, _, _, _, c0, -⟩ := key 0 (by omega)
    obtain ⟨kd, f, aa, nn, ba, bn, bc, q0, q1, q2, q3, q4, m0, m1, m2, m3, hB⟩ := key i (by omega)
    obtain ⟨b, off, sp⟩ := y
    have e : (⟨b, off, sp⟩ : Addr).add (0 * 5) = ⟨b, off, sp⟩ := rfl
    rw [e] at c0
    obtain rfl := spot_none c0
    rw [Addr.add_mid] at q0 q1 q2 q3 q4
    exact ⟨b, off, kd, f, aa, nn, ba, bn, bc, rfl, lt_of_cell q0, ⟨q0, by simpa [Nat.add_assoc] using q1, by simpa [Nat.add_assoc] using q2, by simpa [Nat.add_assoc] using q3, by simpa [Nat.add_assoc] using q4, m0, m1, m2, m3, hB⟩⟩
end Go.Proofs.Ytaogokgklkdmpaa
