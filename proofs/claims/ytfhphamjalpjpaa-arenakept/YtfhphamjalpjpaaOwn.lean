/-
  An owned row laid open: its block and its cells.
-/
import Derived.Test.YtfhphamjalpjpaaLive
namespace Go.Proofs.Ytfhphamjalpjpaa
open Go.RowKit
theorem own_open {W : World} {base : Nat} {e : TypeId} {s n : Nat} {v : Value} {xs : List Value} (h : W.ownsRow base e s v n xs) (hn : n ≠ 0) :
    ∃ g cap cur, v = .slice (some ⟨g, 0, none⟩) n cap ∧ base ≤ g ∧ W.heap[g]? = some (.cells cur e) ∧ n ≤ cap ∧ cap ≤ maxLen ∧ cur.size = cap * s ∧ ∀ (j : Nat) (u : Value), xs[j]? = some u → W.cell? ⟨g, j, none⟩ = some u := by
  obtain ⟨hl, ⟨rfl, hz⟩ | ⟨g, cap, cur, rfl, hgb, hgg, hcap, hcm, hcs, htk⟩⟩ := h
  · exact absurd hz hn
  · refine ⟨g, cap, cur, rfl, hgb, hgg, hcap, hcm, hcs, fun j u hj => ?_⟩
    have hj2 := (List.getElem?_eq_some_iff.1 hj).1
    rw [cell_of hgg, ← hj, ← htk, List.getElem?_take_of_lt (by omega)]
    simp
theorem size_set {W : World} {g : Nat} {cur : Array Value} {t : TypeId} (h : W.heap[g]? = some (.cells cur t)) (i : Nat) (v : Value) : ∃ cur', (W.setCell ⟨g, i, none⟩ v).heap[g]? = some (.cells cur' t) ∧ cur'.size = cur.size :=
  ⟨_, heap_set h i v, by simp⟩
theorem nn_cons {g v : Int} {gs : List Slot} (h0 : 0 ≤ g) (h : ∀ (i : Nat) (g v : Int), gs[i]? = some (g, v) → 0 ≤ g) : ∀ (i : Nat) (g' v' : Int), ((g, v) :: gs)[i]? = some (g', v') → 0 ≤ g' := by
  intro i g' v' hi
  cases i with
  | zero => simp at hi; omega
  | succ i => exact h i g' v' (by simpa using hi)
theorem nn_nil : ∀ (i : Nat) (g v : Int), ([] : List Slot)[i]? = some (g, v) → 0 ≤ g := by intro i g v h; simp at h
end Go.Proofs.Ytfhphamjalpjpaa
