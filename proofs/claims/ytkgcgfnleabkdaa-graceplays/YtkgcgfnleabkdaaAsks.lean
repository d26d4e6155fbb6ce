/-
  What a walk is told of a slice of Asks, and of one of numbers, that came in.
-/
import Derived.Test.YtkgcgfnleabkdaaKeep
import Derived.ProofKit
import Derived.Deep.Slices
namespace Go.Proofs.Ytkgcgfnleabkdaa
open Go.ChangeShapes Go.WideShapes Go.ChangeAt Go.RowKit Go.Deep

theorem cell_lt {W : World} {p : Addr} {v : Value} (h : W.cell? p = some v) : p.block < W.heap.size := by
  unfold World.cell? at h
  cases hq : W.heap[p.block]? with
  | none => simp [hq] at h
  | some o => exact lt_of_heap hq
theorem addr_add (b off i : Nat) : (⟨b, off, none⟩ : Addr).add i = ⟨b, off + i, none⟩ := by unfold Addr.add; split <;> simp_all
theorem spot_none {w : World} {b off : Nat} {sp : Option Nat} {v : Value} (h : w.cell? ⟨b, off, sp⟩ = some v) : sp = none := by
  unfold World.cell? at h
  cases sp with
  | none => rfl
  | some s => cases hq : w.heap[b]? with
    | none => simp [hq] at h
    | some o => cases o <;> simp [hq] at h

def Asks (w : World) (a : Option Addr) (len : Nat) : Prop :=
  len ≤ maxLen ∧ ∀ i, i < len → ∃ (b off : Nat) (k r d : Int), a = some ⟨b, off, none⟩ ∧ b < w.heap.size ∧ w.cell? ⟨b, off + i * 3, none⟩ = some (.int .i64 k) ∧ w.cell? ⟨b, off + i * 3 + 1, none⟩ = some (.int .i64 r) ∧ w.cell? ⟨b, off + i * 3 + 2, none⟩ = some (.int .i64 d)
def Nums (w : World) (a : Option Addr) (len : Nat) : Prop :=
  len ≤ maxLen ∧ ∀ i, i < len → ∃ (b off : Nat) (k : Int), a = some ⟨b, off, none⟩ ∧ b < w.heap.size ∧ w.cell? ⟨b, off + i, none⟩ = some (.int .i64 k)
theorem cells41 : Try.prog.cellsOf 41 = 3 := by kernel_rfl
theorem cells3 : Try.prog.cellsOf 3 = 1 := by kernel_rfl
theorem cells2 : Try.prog.cellsOf 2 = 1 := by kernel_rfl
theorem asks_of {H : Type} {enc : TypeId × Value → H} {w : World} {held : Bool} {fuel : Nat} {a : Option Addr} {len cap : Nat} {x : DataW H × List MemPlace}
    (h : DataW.trod enc Try.prog w 0 (fun _ => true) held fuel 37 [.slice a len cap] = some x) : Asks w a len := by
  rcases open_slice Try.underlying37 h with ⟨hcs, _⟩ | ⟨y, l, c, m, n, D, Pl, hcs, _, hl, hm, hmm, _, hx⟩
  · simp at hcs
    obtain ⟨rfl, rfl, rfl⟩ := hcs
    exact ⟨Nat.zero_le _, fun i hi => absurd hi (Nat.not_lt_zero _)⟩
  · simp at hcs
    obtain ⟨rfl, rfl, rfl⟩ := hcs
    simp at hmm
    subst hmm
    refine ⟨Nat.le_trans hl hm, fun i hi => ?_⟩
    have key : ∀ j, j ≤ i → ∃ (k r d : Int), w.cell? (y.add (j * 3)) = some (.int .i64 k) ∧ w.cell? (y.add (j * 3 + 1)) = some (.int .i64 r) ∧ w.cell? (y.add (j * 3 + 2)) = some (.int .i64 d) := by
      intro j hj
      obtain ⟨cs', h1, h2⟩ := hx j (by omega)
      rw [cells41] at h1
      obtain ⟨_, hlen, hcell⟩ := World.cells?_some h1
      obtain ⟨xs, k, hk, hxy, _, hxl, hf⟩ := DataW.trod_struct Try.underlying41 h2
      match xs, hxl, cs', hlen with
      | [y0, y1, y2], _, [v0, v1, v2], _ =>
        have g0 := hf 0 _ rfl
        have g1 := hf 1 _ rfl
        have g2 := hf 2 _ rfl
        simp [cells3, cells2] at g0 g1 g2
        obtain ⟨n0, e0, _, _⟩ := DataW.trod_int Try.underlying3 g0
        obtain ⟨n1, e1, _, _⟩ := DataW.trod_int Try.underlying3 g1
        obtain ⟨n2, e2, _, _⟩ := DataW.trod_int Try.underlying2 g2
        simp at e0 e1 e2
        subst e0 e1 e2
        have c0 := hcell 0 (by omega)
        have c1 := hcell 1 (by omega)
        have c2 := hcell 2 (by omega)
        rw [add_add] at c0 c1 c2
        exact ⟨n0, n1, n2, by simpa using c0, by simpa using c1, by simpa using c2⟩
    obtain ⟨k0, r0, d0, c0, -⟩ := key 0 (by omega)
    obtain ⟨k, r, d, q0, q1, q2⟩ := key i (by omega)
    obtain ⟨b, off, sp⟩ := y
    have e : (⟨b, off, sp⟩ : Addr).add (0 * 3) = ⟨b, off, sp⟩ := rfl
    rw [e] at c0
    obtain rfl := spot_none c0
    rw [addr_add] at q0 q1 q2
    exact ⟨b, off, k, r, d, rfl, cell_lt q0, q0, by simpa [Nat.add_assoc] using q1, by simpa [Nat.add_assoc] using q2⟩
theorem nums_of {H : Type} {enc : TypeId × Value → H} {w : World} {held : Bool} {fuel : Nat} {a : Option Addr} {len cap : Nat} {x : DataW H × List MemPlace}
    (h : DataW.trod enc Try.prog w 0 (fun _ => true) held fuel 29 [.slice a len cap] = some x) : Nums w a len := by
  rcases open_slice Try.underlying29 h with ⟨hcs, _⟩ | ⟨y, l, c, m, n, D, Pl, hcs, _, hl, hm, hmm, _, hx⟩
  · simp at hcs
    obtain ⟨rfl, rfl, rfl⟩ := hcs
    exact ⟨Nat.zero_le _, fun i hi => absurd hi (Nat.not_lt_zero _)⟩
  · simp at hcs
    obtain ⟨rfl, rfl, rfl⟩ := hcs
    simp at hmm
    subst hmm
    refine ⟨Nat.le_trans hl hm, fun i hi => ?_⟩
    have key : ∀ j, j ≤ i → ∃ x : Int, w.cell? (y.add j) = some (.int .i64 x) := by
      intro j hj
      obtain ⟨cs', h1, h2⟩ := hx j (by omega)
      rw [cells2] at h1
      obtain ⟨_, hlen, hcell⟩ := World.cells?_some h1
      obtain ⟨bx, e0, _⟩ := DataW.trod_int Try.underlying2 h2
      subst e0
      have c0 := hcell 0 (by omega)
      rw [add_add] at c0
      exact ⟨bx, by simpa using c0⟩
    obtain ⟨x0, c0⟩ := key 0 (by omega)
    obtain ⟨xi, ci⟩ := key i (by omega)
    obtain ⟨b, off, sp⟩ := y
    have e : (⟨b, off, sp⟩ : Addr).add 0 = ⟨b, off, sp⟩ := rfl
    rw [e] at c0
    obtain rfl := spot_none c0
    rw [addr_add] at ci
    exact ⟨b, off, xi, rfl, cell_lt ci, ci⟩
theorem Asks.at {w : World} {a : Option Addr} {len : Nat} (h : Asks w a len) {i : Nat} (hi : i < len) {W : World} (hB : Below w.heap.size w W) : ∃ (b off : Nat) (k r d : Int), a = some ⟨b, off, none⟩ ∧ W.cell? ⟨b, off + i * 3, none⟩ = some (.int .i64 k) ∧ W.cell? ⟨b, off + i * 3 + 1, none⟩ = some (.int .i64 r) ∧ W.cell? ⟨b, off + i * 3 + 2, none⟩ = some (.int .i64 d) := by
  obtain ⟨b, off, k, r, d, e, hb, h0, h1, h2⟩ := h.2 i hi
  exact ⟨b, off, k, r, d, e, (World.cell?_of_block (w := w) (a := ⟨b, off + i * 3, none⟩) (hB.block b hb)).trans h0, (World.cell?_of_block (w := w) (a := ⟨b, off + i * 3 + 1, none⟩) (hB.block b hb)).trans h1, (World.cell?_of_block (w := w) (a := ⟨b, off + i * 3 + 2, none⟩) (hB.block b hb)).trans h2⟩
theorem Nums.at {w : World} {a : Option Addr} {len : Nat} (h : Nums w a len) {i : Nat} (hi : i < len) {W : World} (hB : Below w.heap.size w W) : ∃ (b off : Nat) (k : Int), a = some ⟨b, off, none⟩ ∧ W.cell? ⟨b, off + i, none⟩ = some (.int .i64 k) := by
  obtain ⟨b, off, k, e, hb, h0⟩ := h.2 i hi
  exact ⟨b, off, k, e, (World.cell?_of_block (w := w) (a := ⟨b, off + i, none⟩) (hB.block b hb)).trans h0⟩
end Go.Proofs.Ytkgcgfnleabkdaa
