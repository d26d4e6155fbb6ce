/-
  What a walk is told of bools that came in.
-/
import Derived.Test.YtiedobpgfhmidabKnown
import Derived.ProofKit
import Derived.Deep.Slices
import Derived.SliceStrings
import Derived.Deep.Grids
namespace Go.Proofs.Ytiedobpgfhmidab
open Go.ChangeShapes Go.WideShapes Go.ChangeAt Go.RowKit Go.Deep

theorem spot_none {w : World} {b off : Nat} {sp : Option Nat} {v : Value} (h : w.cell? ⟨b, off, sp⟩ = some v) : sp = none := by
  unfold World.cell? at h
  cases sp with
  | none => rfl
  | some s => cases hq : w.heap[b]? with
    | none => simp [hq] at h
    | some o => cases o <;> simp [hq] at h
theorem addr_add (b off i : Nat) : (⟨b, off, none⟩ : Addr).add i = ⟨b, off + i, none⟩ := by unfold Addr.add; split <;> simp_all
theorem cells4 : Try.prog.cellsOf 4 = 1 := by kernel_rfl
theorem max_le : maxLen ≤ 9223372036854775807 := by decide
/-- A slice of bools that came in. -/
def BoolsAt (W : World) (pa : Option Addr) (len : Nat) : Prop := len ≤ 9223372036854775807 ∧ ∀ i, i < len → ∃ b off s, pa = some ⟨b, off, none⟩ ∧ b < W.heap.size ∧ W.cell? ⟨b, off + i, none⟩ = some (.bool s)
theorem BoolsAt.below {W W' : World} {pa : Option Addr} {len : Nat} (h : BoolsAt W pa len) (g : Below W.heap.size W W') : BoolsAt W' pa len :=
  ⟨h.1, fun i hi => by
    obtain ⟨b, off, s, h1, h2, h3⟩ := h.2 i hi
    exact ⟨b, off, s, h1, Nat.lt_of_lt_of_le h2 g.size, (cell_same (g.block b h2) _).trans h3⟩⟩
theorem bools_of {H : Type} {enc : TypeId × Value → H} {w : World} {held : Bool} {fuel : Nat} {a : Option Addr} {len cap : Nat} {x : DataW H × List MemPlace}
    (h : DataW.trod enc Try.prog w 0 (fun _ => true) held fuel 22 [.slice a len cap] = some x) : BoolsAt w a len := by
  rcases open_bools Try.underlying22 Try.underlying4 cells4 h with ⟨hcs, _⟩ | ⟨y, l, c, B, hcs, _, hl, hm, _, hcell⟩
  · simp at hcs
    obtain ⟨rfl, rfl, rfl⟩ := hcs
    exact ⟨Nat.zero_le _, fun i hi => absurd hi (Nat.not_lt_zero _)⟩
  · simp at hcs
    obtain ⟨rfl, rfl, rfl⟩ := hcs
    have hml := max_le
    refine ⟨by omega, fun i hi => ?_⟩
    have c1 := hcell i (by omega)
    have c0 := hcell 0 (by omega)
    obtain ⟨b, off, sp⟩ := y
    have e : (⟨b, off, sp⟩ : Addr).add 0 = ⟨b, off, sp⟩ := rfl
    rw [e] at c0
    obtain rfl := spot_none c0
    rw [addr_add] at c1
    exact ⟨b, off, _, rfl, lt_of_cell c1, c1⟩
end Go.Proofs.Ytiedobpgfhmidab
