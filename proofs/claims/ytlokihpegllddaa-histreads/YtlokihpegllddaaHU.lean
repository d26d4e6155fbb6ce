/-
  A call with its places, read whole: one step, whatever its cells are.
-/
import Derived.Test.YtlokihpegllddaaHH
import Derived.Deep.MidRow
namespace Go.Proofs.Ytlokihpegllddaa.Cl
open Go.RowKit Go.Shelf

/-- 23 cells are there from o on. -/
def Has23 (W : World) (g o : Nat) : Prop := ∀ j, j < 23 → (W.cell? ⟨g, o + j, none⟩).isSome = true
/-- .. and what they hold. -/
def at23 (W : World) (g o : Nat) : Array Value := ((List.range 23).map fun j => (W.cell? ⟨g, o + j, none⟩).getD undef).toArray
theorem size23 (W : World) (g o : Nat) : (at23 W g o).size = 23 := by simp [at23]
theorem range23 {W : World} {g o : Nat} (h : Has23 W g o) : W.rangeAt g o ((List.range 23).map fun j => (W.cell? ⟨g, o + j, none⟩).getD undef) := fun j v hj => by
  have hl : j < 23 := by
    have := (List.getElem?_eq_some_iff.1 hj).1
    simpa using this
  have hs := h j hl
  obtain ⟨u, hu⟩ := Option.isSome_iff_exists.1 hs
  rw [hu]
  simp [hl, hu] at hj
  rw [hj]
theorem load40 {W : World} {g o : Nat} (h : Has23 W g o) : (Instr.loadAt 40 (.pointer (some ⟨g, o, none⟩))).run Try.prog W = .ok (.agg (at23 W g o)) W :=
  run_loadAt_mid W g o 40 _ _ (range23 h) Try.underlying40 rfl (by rw [List.length_map, List.length_range]; kernel_rfl)
theorem load49 {W : World} {g o : Nat} (h : Has23 W g o) : (Instr.loadAt 49 (.pointer (some ⟨g, o, none⟩))).run Try.prog W = .ok (.agg (at23 W g o)) W :=
  run_loadAt_mid W g o 49 _ _ (range23 h) Try.underlying49 rfl (by rw [List.length_map, List.length_range]; kernel_rfl)
/-- The load, under a name of its own. -/
def ld40 (v : Value) : Sem Value := Instr.loadAt 40 v
def ld49 (v : Value) : Sem Value := Instr.loadAt 49 v
theorem ld40_eq (v : Value) : Instr.loadAt 40 v = ld40 v := rfl
theorem ld49_eq (v : Value) : Instr.loadAt 49 v = ld49 v := rfl
theorem ld40_ok {W : World} {g o : Nat} (h : Has23 W g o) : (ld40 (.pointer (some ⟨g, o, none⟩))).run Try.prog W = .ok (.agg (at23 W g o)) W := load40 h
theorem ld49_ok {W : World} {g o : Nat} (h : Has23 W g o) : (ld49 (.pointer (some ⟨g, o, none⟩))).run Try.prog W = .ok (.agg (at23 W g o)) W := load49 h
/-- A call that lies in a row. -/
theorem has_of {W : World} {g o : Nat} {x : Om} (h : ∀ (j : Nat) (v : Value), x.cs[j]? = some v → W.cell? ⟨g, o + j, none⟩ = some v) : Has23 W g o ∧ at23 W g o = x.cs := by
  have hs : x.cs.size = 23 := rfl
  refine ⟨fun j hj => by rw [h j _ (Array.getElem?_eq_getElem (by rw [hs]; exact hj))]; rfl, ?_⟩
  apply Array.ext_getElem?
  intro j
  by_cases hj : j < 23
  · have hv := Array.getElem?_eq_getElem (xs := x.cs) (i := j) (by rw [hs]; exact hj)
    rw [hv]
    simp [at23, hj, h j _ hv]
  · rw [Array.getElem?_eq_none (by rw [size23]; omega), Array.getElem?_eq_none (by rw [hs]; omega)]
theorem has_keep {W W' : World} {g o : Nat} (h : Has23 W g o) (e : W'.heap[g]? = W.heap[g]?) : Has23 W' g o ∧ at23 W' g o = at23 W g o := by
  have e2 : ∀ j, W'.cell? ⟨g, o + j, none⟩ = W.cell? ⟨g, o + j, none⟩ := fun j => World.cell?_of_block e
  refine ⟨fun j hj => by rw [e2]; exact h j hj, ?_⟩
  simp only [at23, e2]
end Go.Proofs.Ytlokihpegllddaa.Cl
