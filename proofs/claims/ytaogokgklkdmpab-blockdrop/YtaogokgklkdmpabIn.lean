/-
  What a walk is told of slices of bytes, and of calls, that came in.
-/
import Derived.Test.YtaogokgklkdmpabKnown
import Derived.ProofKit
import Derived.Deep.Slices
import Derived.SliceStrings
namespace Go.Proofs.Ytaogokgklkdmpab
open Go.ChangeShapes Go.WideShapes Go.ChangeAt Go.RowKit Go.Deep

theorem spot_none {w : World} {b off : Nat} {sp : Option Nat} {v : Value} (h : w.cell? ⟨b, off, sp⟩ = some v) : sp = none := by
  unfold World.cell? at h
  cases sp with
  | none => rfl
  | some s => cases hq : w.heap[b]? with
    | none => simp [hq] at h
    | some o => cases o <;> simp [hq] at h
theorem cells5 : Try.prog.cellsOf 5 = 1 := by kernel_rfl
theorem cells3 : Try.prog.cellsOf 3 = 1 := by kernel_rfl
theorem max_le : maxLen ≤ 9223372036854775807 := by decide
/-- Bytes that came in. -/
def BytesAt (W : World) (a : Option Addr) (n cap : Nat) : Prop := n ≤ 9223372036854775807 ∧ n ≤ cap ∧ cap ≤ 9223372036854775807 ∧ ∃ g, In W a n cap g
theorem In.keep {W W' : World} {a : Option Addr} {n cap : Nat} {g : Nat → Int} (h : In W a n cap g) (k : ∀ b : Nat, b < W.heap.size → W'.heap[b]? = W.heap[b]?) : In W' a n cap g := fun hn => by
  obtain ⟨sb, so, h1, h2, h3⟩ := h hn
  exact ⟨sb, so, h1, fun j hj => (cell_same (k sb (h2.lt hn)) _).trans (h2 j hj), h3⟩
theorem In.below {W W' : World} {a : Option Addr} {n cap : Nat} {g : Nat → Int} (h : In W a n cap g) (k : Below W.heap.size W W') : In W' a n cap g := h.keep k.block
theorem BytesAt.below {W W' : World} {a : Option Addr} {n cap : Nat} (h : BytesAt W a n cap) (k : Below W.heap.size W W') : BytesAt W' a n cap := let ⟨h1, h2, h3, g, h4⟩ := h; ⟨h1, h2, h3, g, h4.below k⟩
theorem bytes_of {H : Type} {enc : TypeId × Value → H} {w : World} {held : Bool} {fuel : Nat} {a : Option Addr} {len cap : Nat} {x : DataW H × List MemPlace}
    (h : DataW.trod enc Try.prog w 0 (fun _ => true) held fuel 22 [.slice a len cap] = some x) : BytesAt w a len cap := by
  rcases open_ints Try.underlying22 Try.underlying5 cells5 h with ⟨hcs, _⟩ | ⟨y, l, c, zs, hcs, _, hl, hm, hlen, _, hcell, _⟩
  · simp at hcs
    obtain ⟨rfl, rfl, rfl⟩ := hcs
    exact ⟨Nat.zero_le _, Nat.le_refl _, Nat.zero_le _, fun _ => 0, fun h0 => absurd h0 (by omega)⟩
  · simp at hcs
    obtain ⟨rfl, rfl, rfl⟩ := hcs
    have hml := max_le
    simp at hlen
    refine ⟨by omega, hl, by omega, fun i => zs.getD i 0, fun h0 => ?_⟩
    have c0 := hcell 0 (by omega)
    obtain ⟨b, off, sp⟩ := y
    have e : (⟨b, off, sp⟩ : Addr).add 0 = ⟨b, off, sp⟩ := rfl
    rw [e] at c0
    obtain rfl := spot_none c0
    refine ⟨b, off, rfl, fun j hj => ?_, hl⟩
    have c1 := hcell j (by omega)
    rw [Addr.add_mid] at c1
    exact c1
end Go.Proofs.Ytaogokgklkdmpab
