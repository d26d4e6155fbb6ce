/-
  What a walk is told of slices of strings, calls and bools that came in.
-/
import Derived.Test.YtbmcnfdciogmjaaAlone
import Derived.ProofKit
import Derived.Deep.Slices
import Derived.SliceStrings
import Derived.Deep.Grids
namespace Go.Proofs.Ytbmcnfdciogmjaa
open Go.ChangeShapes Go.WideShapes Go.ChangeAt Go.RowKit Go.Deep

theorem addr_add (b off i : Nat) : (⟨b, off, none⟩ : Addr).add i = ⟨b, off + i, none⟩ := by unfold Addr.add; split <;> simp_all
theorem spot_none {w : World} {b off : Nat} {sp : Option Nat} {v : Value} (h : w.cell? ⟨b, off, sp⟩ = some v) : sp = none := by
  unfold World.cell? at h
  cases sp with
  | none => rfl
  | some s => cases hq : w.heap[b]? with
    | none => simp [hq] at h
    | some o => cases o <;> simp [hq] at h
theorem cells9 : Try.prog.cellsOf 9 = 1 := by kernel_rfl
theorem cells4 : Try.prog.cellsOf 4 = 1 := by kernel_rfl
theorem cells43 : Try.prog.cellsOf 43 = 3 := by kernel_rfl
theorem cells3 : Try.prog.cellsOf 3 = 1 := by kernel_rfl
theorem cells2 : Try.prog.cellsOf 2 = 1 := by kernel_rfl
theorem max_le : maxLen ≤ 9223372036854775807 := by decide
theorem strs_of {H : Type} {enc : TypeId × Value → H} {w : World} {held : Bool} {fuel : Nat} {a : Option Addr} {len cap : Nat} {x : DataW H × List MemPlace}
    (h : DataW.trod enc Try.prog w 0 (fun _ => true) held fuel 35 [.slice a len cap] = some x) : StrsAt w a len := by
  rcases open_strings Try.underlying35 Try.underlying9 cells9 h with ⟨hcs, _⟩ | ⟨y, l, c, ss, hcs, _, hl, hm, hlen, _, hcell, hsz⟩
  · simp at hcs
    obtain ⟨rfl, rfl, rfl⟩ := hcs
    exact ⟨Nat.zero_le _, fun i hi => absurd hi (Nat.not_lt_zero _)⟩
  · simp at hcs
    obtain ⟨rfl, rfl, rfl⟩ := hcs
    simp at hlen
    have hml := max_le
    refine ⟨by omega, fun i hi => ?_⟩
    have hi2 : i < ss.length := by omega
    have c1 := hcell i hi2
    have c0 := hcell 0 (by omega)
    obtain ⟨b, off, sp⟩ := y
    have e : (⟨b, off, sp⟩ : Addr).add 0 = ⟨b, off, sp⟩ := rfl
    rw [e] at c0
    obtain rfl := spot_none c0
    rw [addr_add] at c1
    refine ⟨b, off, _, rfl, lt_of_cell c1, c1, ?_⟩
    have : ss.getD i ByteArray.empty ∈ ss := by rw [List.getD_eq_getElem?_getD, List.getElem?_eq_getElem hi2]; exact List.getElem_mem hi2
    have := hsz _ this
    omega
/-- A slice of bools that came in. -/
def BoolsAt (W : World) (pa : Option Addr) (len : Nat) : Prop := len ≤ 9223372036854775807 ∧ ∀ i, i < len → ∃ b off s, pa = some ⟨b, off, none⟩ ∧ b < W.heap.size ∧ W.cell? ⟨b, off + i, none⟩ = some (.bool s)
theorem BoolsAt.below {W W' : World} {pa : Option Addr} {len : Nat} (h : BoolsAt W pa len) (g : Below W.heap.size W W') : BoolsAt W' pa len :=
  ⟨h.1, fun i hi => by
    obtain ⟨b, off, s, h1, h2, h3⟩ := h.2 i hi
    exact ⟨b, off, s, h1, Nat.lt_of_lt_of_le h2 g.size, (cell_same (g.block b h2) _).trans h3⟩⟩
theorem bools_of {H : Type} {enc : TypeId × Value → H} {w : World} {held : Bool} {fuel : Nat} {a : Option Addr} {len cap : Nat} {x : DataW H × List MemPlace}
    (h : DataW.trod enc Try.prog w 0 (fun _ => true) held fuel 55 [.slice a len cap] = some x) : BoolsAt w a len := by
  rcases open_bools Try.underlying55 Try.underlying4 cells4 h with ⟨hcs, _⟩ | ⟨y, l, c, B, hcs, _, hl, hm, _, hcell⟩
  · simp at hcs
    obtain ⟨rfl, rfl, rfl⟩ := hcs
    exact ⟨Nat.zero_le _, fun i hi => absurd hi (Nat.not_lt_zero _)⟩
  · simp at hcs
    obtain ⟨rfl, rfl, rfl⟩ := hcs
    have hml := max_le
    refine ⟨by omega, fun i hi => ?_⟩
    have c1 := hcell i (by omega)
    have c0 := hcell 0 (by omega)
    obtain ⟨b, off, sp⟩ := y
    have e : (⟨b, off, sp⟩ : Addr).add 0 = ⟨b, off, sp⟩ := rfl
    rw [e] at c0
    obtain rfl := spot_none c0
    rw [addr_add] at c1
    exact ⟨b, off, _, rfl, lt_of_cell c1, c1⟩
/-- A slice of calls that came in. -/
def AsksAt (W : World) (pa : Option Addr) (len : Nat) : Prop := len ≤ 9223372036854775807 ∧ ∀ i, i < len → ∃ b off kd s v, pa = some ⟨b, off, none⟩ ∧ b < W.heap.size ∧ W.cell? ⟨b, off + i * 3, none⟩ = some (.int .i64 kd) ∧ W.cell? ⟨b, off + i * 3 + 1, none⟩ = some (.string s) ∧ W.cell? ⟨b, off + i * 3 + 2, none⟩ = some (.int .i64 v) ∧ s.size ≤ 9223372036854775807
theorem AsksAt.below {W W' : World} {pa : Option Addr} {len : Nat} (h : AsksAt W pa len) (g : Below W.heap.size W W') : AsksAt W' pa len :=
  ⟨h.1, fun i hi => by
    obtain ⟨b, off, kd, s, v, h1, h2, h3, h4, h5, h6⟩ := h.2 i hi
    exact ⟨b, off, kd, s, v, h1, Nat.lt_of_lt_of_le h2 g.size, (cell_same (g.block b h2) _).trans h3, (cell_same (g.block b h2) _).trans h4, (cell_same (g.block b h2) _).trans h5, h6⟩⟩
set_option maxRecDepth 100000 in
theorem asks_of {H : Type} {enc : TypeId × Value → H} {w : World} {held : Bool} {fuel : Nat} {a : Option Addr} {len cap : Nat} {x : DataW H × List MemPlace}
    (h : DataW.trod enc Try.prog w 0 (fun _ => true) held fuel 37 [.slice a len cap] = some x) : AsksAt w a len := by
  rcases open_slice Try.underlying37 h with ⟨hcs, _⟩ | ⟨y, l, c, m, n, D, Pl, hcs, _, hl, hm, hmm, _, hx⟩
  · simp at hcs
    obtain ⟨rfl, rfl, rfl⟩ := hcs
    exact ⟨Nat.zero_le _, fun i hi => absurd hi (Nat.not_lt_zero _)⟩
  · simp at hcs
    obtain ⟨rfl, rfl, rfl⟩ := hcs
    simp at hmm
    subst hmm
    have hml := max_le
    refine ⟨by omega, fun i hi => ?_⟩
    have key : ∀ j, j ≤ i → ∃ (kd : Int) (s : ByteArray) (v : Int), w.cell? (y.add (j * 3)) = some (.int .i64 kd) ∧ w.cell? (y.add (j * 3 + 1)) = some (.string s) ∧ w.cell? (y.add (j * 3 + 2)) = some (.int .i64 v) ∧ s.size ≤ maxLen := by
      intro j hj
      obtain ⟨cs', h1, h2⟩ := hx j (by omega)
      rw [cells43] at h1
      obtain ⟨_, hlen, hcell⟩ := World.cells?_some h1
      obtain ⟨xs, k, hk, hxy, _, hxl, hf⟩ := DataW.trod_struct Try.underlying43 h2
      match xs, hxl, cs', hlen with
      | [y0, y1, y2], _, [v0, v1, v2], _ =>
        have g0 := hf 0 _ rfl
        have g1 := hf 1 _ rfl
        have g2 := hf 2 _ rfl
        simp [cells3, cells2, cells9] at g0 g1 g2
        obtain ⟨n0, e0, _, _⟩ := DataW.trod_int Try.underlying3 g0
        obtain ⟨n1, e1, _, hs1⟩ := DataW.trod_string Try.underlying9 g1
        obtain ⟨n2, e2, _, _⟩ := DataW.trod_int Try.underlying2 g2
        simp at e0 e1 e2
        subst e0 e1 e2
        have c0 := hcell 0 (by omega)
        have c1 := hcell 1 (by omega)
        have c2 := hcell 2 (by omega)
        rw [add_add] at c0 c1 c2
        exact ⟨n0, n1, n2, by simpa using c0, by simpa using c1, by simpa using c2, hs1⟩
    obtain ⟨_, _, _, c0, -⟩ := key 0 (by omega)
    obtain ⟨kd, s, v, q0, q1, q2, q3⟩ := key i (by omega)
    obtain ⟨b, off, sp⟩ := y
    have e : (⟨b, off, sp⟩ : Addr).add (0 * 3) = ⟨b, off, sp⟩ := rfl
    rw [e] at c0
    obtain rfl := spot_none c0
    rw [addr_add] at q0 q1 q2
    exact ⟨b, off, kd, s, v, rfl, lt_of_cell q0, q0, by simpa [Nat.add_assoc] using q1, by simpa [Nat.add_assoc] using q2, by omega⟩
end Go.Proofs.Ytbmcnfdciogmjaa
