/-
  A result, read whole: one step, whatever its cells are.
-/
import Derived.Test.YtlokihpegllddaaHU
import Derived.Deep.MidRow
namespace Go.Proofs.Ytlokihpegllddaa.Cl
open Go.RowKit Go.Shelf

/-- 11 cells are there from o on. -/
def Has11 (W : World) (g o : Nat) : Prop := ∀ j, j < 11 → (W.cell? ⟨g, o + j, none⟩).isSome = true
/-- .. and what they hold. -/
def at11 (W : World) (g o : Nat) : Array Value := ((List.range 11).map fun j => (W.cell? ⟨g, o + j, none⟩).getD undef).toArray
theorem size11 (W : World) (g o : Nat) : (at11 W g o).size = 11 := by simp [at11]
theorem range11 {W : World} {g o : Nat} (h : Has11 W g o) : W.rangeAt g o ((List.range 11).map fun j => (W.cell? ⟨g, o + j, none⟩).getD undef) := fun j v hj => by
  have hl : j < 11 := by
    have := (List.getElem?_eq_some_iff.1 hj).1
    simpa using this
  have hs := h j hl
  obtain ⟨u, hu⟩ := Option.isSome_iff_exists.1 hs
  rw [hu]
  simp [hl, hu] at hj
  rw [hj]
theorem load33 {W : World} {g o : Nat} (h : Has11 W g o) : (Instr.loadAt 33 (.pointer (some ⟨g, o, none⟩))).run Try.prog W = .ok (.agg (at11 W g o)) W :=
  run_loadAt_mid W g o 33 _ _ (range11 h) Try.underlying33 rfl (by rw [List.length_map, List.length_range]; kernel_rfl)
/-- The load, under a name of its own. -/
def ld33 (v : Value) : Sem Value := Instr.loadAt 33 v
theorem ld33_eq (v : Value) : Instr.loadAt 33 v = ld33 v := rfl
theorem ld33_ok {W : World} {g o : Nat} (h : Has11 W g o) : (ld33 (.pointer (some ⟨g, o, none⟩))).run Try.prog W = .ok (.agg (at11 W g o)) W := load33 h
/-- A result that lies in a row of calls. -/
theorem has11_of {W : World} {g o : Nat} {A : Array Value} (hs : A.size = 11) (h : ∀ (j : Nat) (v : Value), A[j]? = some v → W.cell? ⟨g, o + j, none⟩ = some v) : Has11 W g o ∧ at11 W g o = A := by
  refine ⟨fun j hj => by rw [h j _ (Array.getElem?_eq_getElem (by rw [hs]; exact hj))]; rfl, ?_⟩
  apply Array.ext_getElem?
  intro j
  by_cases hj : j < 11
  · have hv := Array.getElem?_eq_getElem (xs := A) (i := j) (by rw [hs]; exact hj)
    rw [hv]
    simp [at11, hj, h j _ hv]
  · rw [Array.getElem?_eq_none (by rw [size11]; omega), Array.getElem?_eq_none (by rw [hs]; omega)]
theorem has11_keep {W W' : World} {g o : Nat} (h : Has11 W g o) (e : W'.heap[g]? = W.heap[g]?) : Has11 W' g o ∧ at11 W' g o = at11 W g o := by
  have e2 : ∀ j, W'.cell? ⟨g, o + j, none⟩ = W.cell? ⟨g, o + j, none⟩ := fun j => World.cell?_of_block e
  refine ⟨fun j hj => by rw [e2]; exact h j hj, ?_⟩
  simp only [at11, e2]
end Go.Proofs.Ytlokihpegllddaa.Cl
