/-
  What a walk is told of a slice of Jobs that came in.
-/
import Derived.Test.YtkgeapmafpeapaaRIn
import Derived.ProofKit
import Derived.Deep.Slices
namespace Go.Proofs.Ytkgeapmafpeapaa
open Go.ChangeShapes Go.WideShapes Go.ChangeAt Go.RowKit Go.Deep

def JobsIn (w : World) (a : Option Addr) (len cap : Nat) : Prop := len ≤ cap ∧ cap ≤ maxLen ∧ ∃ js : List Jb, js.length = len ∧ JobsAt w a js
theorem cells30 : Try.prog.cellsOf 30 = 5 := by kernel_rfl
theorem cells3 : Try.prog.cellsOf 3 = 1 := by kernel_rfl
theorem cells2 : Try.prog.cellsOf 2 = 1 := by kernel_rfl
theorem list_of {α : Type} {P : Nat → α → Prop} : ∀ len, (∀ i, i < len → ∃ j, P i j) → ∃ js : List α, js.length = len ∧ ∀ k j, js[k]? = some j → P k j := by
  intro len
  induction len with
  | zero => intro _; exact ⟨[], rfl, fun k j h => by simp at h⟩
  | succ n ih =>
    intro h
    obtain ⟨js, hl, hj⟩ := ih (fun i hi => h i (by omega))
    obtain ⟨j, hjn⟩ := h n (by omega)
    refine ⟨js ++ [j], by simp [hl], fun k x hx => ?_⟩
    rcases Nat.lt_or_ge k n with hk | hk
    · rw [List.getElem?_append_left (by omega)] at hx
      exact hj k x hx
    · have hkl := (List.getElem?_eq_some_iff.1 hx).1
      simp [hl] at hkl
      obtain rfl : k = n := by omega
      rw [List.getElem?_append_right (by omega)] at hx
      simp [hl] at hx
      subst hx
      exact hjn
set_option maxRecDepth 100000 in
theorem jobs_of {H : Type} {enc : TypeId × Value → H} {w : World} {held : Bool} {fuel : Nat} {a : Option Addr} {len cap : Nat} {x : DataW H × List MemPlace}
    (h : DataW.trod enc Try.prog w 0 (fun _ => true) held fuel 31 [.slice a len cap] = some x) : JobsIn w a len cap := by
  rcases open_slice Try.underlying31 h with ⟨hcs, _⟩ | ⟨y, l, c, m, n, D, Pl, hcs, _, hl, hm, hmm, _, hx⟩
  · simp at hcs
    obtain ⟨rfl, rfl, rfl⟩ := hcs
    exact ⟨Nat.zero_le _, Nat.zero_le _, [], rfl, fun k j hj => by simp at hj⟩
  · simp at hcs
    obtain ⟨rfl, rfl, rfl⟩ := hcs
    simp at hmm
    subst hmm
    refine ⟨hl, hm, ?_⟩
    apply list_of
    intro i hi
    have key : ∀ j, j ≤ i → ∃ (t : Jb), w.cell? (y.add (j * 5)) = some (.int .i64 t.kind) ∧ w.cell? (y.add (j * 5 + 1)) = some (.int .i64 t.at_) ∧ w.cell? (y.add (j * 5 + 2)) = some (.int .i64 t.work) ∧ w.cell? (y.add (j * 5 + 3)) = some (.int .i64 t.A) ∧ w.cell? (y.add (j * 5 + 4)) = some (.int .i64 t.B) := by
      intro j hj
      obtain ⟨cs', h1, h2⟩ := hx j (by omega)
      rw [cells30] at h1
      obtain ⟨_, hlen, hcell⟩ := World.cells?_some h1
      obtain ⟨xs, k, hk, hxy, _, hxl, hf⟩ := DataW.trod_struct Try.underlying30 h2
      match xs, hxl, cs', hlen with
      | [y0, y1, y2, y3, y4], _, [v0, v1, v2, v3, v4], _ =>
        have g0 := hf 0 _ rfl
        have g1 := hf 1 _ rfl
        have g2 := hf 2 _ rfl
        have g3 := hf 3 _ rfl
        have g4 := hf 4 _ rfl
        simp [cells3, cells2] at g0 g1 g2 g3 g4
        obtain ⟨n0, e0, _, _⟩ := DataW.trod_int Try.underlying3 g0
        obtain ⟨n1, e1, _, _⟩ := DataW.trod_int Try.underlying3 g1
        obtain ⟨n2, e2, _, _⟩ := DataW.trod_int Try.underlying3 g2
        obtain ⟨n3, e3, _, _⟩ := DataW.trod_int Try.underlying2 g3
        obtain ⟨n4, e4, _, _⟩ := DataW.trod_int Try.underlying2 g4
        simp at e0 e1 e2 e3 e4
        subst e0 e1 e2 e3 e4
        have c0 := hcell 0 (by omega)
        have c1 := hcell 1 (by omega)
        have c2 := hcell 2 (by omega)
        have c3 := hcell 3 (by omega)
        have c4 := hcell 4 (by omega)
        rw [add_add] at c0 c1 c2 c3 c4
        exact ⟨⟨n0, n1, n2, n3, n4⟩, by simpa using c0, by simpa using c1, by simpa using c2, by simpa using c3, by simpa using c4⟩
    obtain ⟨t0, c0, -⟩ := key 0 (by omega)
    obtain ⟨t, q0, q1, q2, q3, q4⟩ := key i (by omega)
    obtain ⟨b, off, sp⟩ := y
    have e : (⟨b, off, sp⟩ : Addr).add (0 * 5) = ⟨b, off, sp⟩ := rfl
    rw [e] at c0
    obtain rfl := spot_none c0
    rw [addr_add] at q0 q1 q2 q3 q4
    exact ⟨t, b, off, rfl, cell_lt q0, q0, by simpa [Nat.add_assoc] using q1, by simpa [Nat.add_assoc] using q2, by simpa [Nat.add_assoc] using q3, by simpa [Nat.add_assoc] using q4⟩
theorem JobsAt.take {W : World} {pa : Option Addr} {js : List Jb} (h : JobsAt W pa js) (k : Nat) : JobsAt W pa (js.take k) := by
  intro i j hj
  rw [List.getElem?_take] at hj
  split at hj
  · exact h i j hj
  · cases hj
end Go.Proofs.Ytkgeapmafpeapaa
