/-
  A file's bytes, written: the contract of write.
-/
import Derived.Test.YtlngeaacjbdmhaaRead
namespace Go.Proofs.Ytlngeaacjbdmhaa
open Go.RowKit Go.Maps

/-- Bytes that lie in a block. -/
def Bs (W : World) (sb so n : Nat) (g : Nat → Int) : Prop := ∀ j, j < n → W.cell? ⟨sb, so + j, none⟩ = some (U (g j))
theorem lt_of_cell {W : World} {p : Addr} {v : Value} (h : W.cell? p = some v) : p.block < W.heap.size := by
  cases Nat.lt_or_ge p.block W.heap.size with
  | inl h' => exact h'
  | inr h' => simp [World.cell?, Array.getElem?_eq_none h'] at h
theorem cell_same {W W' : World} {k : Nat} (h : W'.heap[k]? = W.heap[k]?) (i : Nat) : W'.cell? ⟨k, i, none⟩ = W.cell? ⟨k, i, none⟩ := by simp [World.cell?, h]
theorem Bs.lt {W : World} {sb so n : Nat} {g : Nat → Int} (h : Bs W sb so n g) (hn : 0 < n) : sb < W.heap.size := lt_of_cell (h 0 hn)
theorem Bs.fr {S : List Nat} {W W' : World} {sb so n : Nat} {g : Nat → Int} (h : Bs W sb so n g) (f : Fr S W W') (hs : sb ∉ S) : Bs W' sb so n g :=
  fun j hj => (cell_same (f.blk sb (lt_of_cell (h j hj)) hs) _).trans (h j hj)
theorem Bs.apart {W : World} {sb so n c m : Nat} {g : Nat → Int} {x : F} (h : Bs W sb so n g) (hn : 0 < n) (hf : Fl W c m x) : sb ≠ c ∧ sb ≠ m := by
  have h0 := h 0 hn
  constructor
  · rintro rfl
    rw [cell_of hf.hc] at h0
    match so + 0, h0 with
    | 0, h0 => simp at h0
    | 1, h0 => simp at h0
    | k + 2, h0 => simp at h0
  · rintro rfl
    obtain ⟨D, ⟨es, c, h1, _⟩, _⟩ := hf.hm
    simp [World.cell?, h1] at h0
theorem Mp.drew {W : World} {b n : Nat} {f : Int → Option Value} (h : Mp W b n f) : Mp W.drew b n f := h.same rfl
theorem row16 {W : World} {b : Nat} {R : Array Value} (h : W.heap[b]? = some (.cells R 149)) (hR : R.size = 16) : ∃ y0 y1 y2 y3 y4 y5 y6 y7 y8 y9 y10 y11 y12 y13 y14 y15, R = #[y0, y1, y2, y3, y4, y5, y6, y7, y8, y9, y10, y11, y12, y13, y14, y15] ∧ W.cell? ⟨b, 0, none⟩ = some y0 ∧ W.cell? ⟨b, 1, none⟩ = some y1 ∧ W.cell? ⟨b, 2, none⟩ = some y2 ∧ W.cell? ⟨b, 3, none⟩ = some y3 ∧ W.cell? ⟨b, 4, none⟩ = some y4 ∧ W.cell? ⟨b, 5, none⟩ = some y5 ∧ W.cell? ⟨b, 6, none⟩ = some y6 ∧ W.cell? ⟨b, 7, none⟩ = some y7 ∧ W.cell? ⟨b, 8, none⟩ = some y8 ∧ W.cell? ⟨b, 9, none⟩ = some y9 ∧ W.cell? ⟨b, 10, none⟩ = some y10 ∧ W.cell? ⟨b, 11, none⟩ = some y11 ∧ W.cell? ⟨b, 12, none⟩ = some y12 ∧ W.cell? ⟨b, 13, none⟩ = some y13 ∧ W.cell? ⟨b, 14, none⟩ = some y14 ∧ W.cell? ⟨b, 15, none⟩ = some y15 := by
  match R, hR with
  | ⟨[y0, y1, y2, y3, y4, y5, y6, y7, y8, y9, y10, y11, y12, y13, y14, y15]⟩, _ => exact ⟨y0, y1, y2, y3, y4, y5, y6, y7, y8, y9, y10, y11, y12, y13, y14, y15, rfl, by rw [cell_of h]; rfl, by rw [cell_of h]; rfl, by rw [cell_of h]; rfl, by rw [cell_of h]; rfl, by rw [cell_of h]; rfl, by rw [cell_of h]; rfl, by rw [cell_of h]; rfl, by rw [cell_of h]; rfl, by rw [cell_of h]; rfl, by rw [cell_of h]; rfl, by rw [cell_of h]; rfl, by rw [cell_of h]; rfl, by rw [cell_of h]; rfl, by rw [cell_of h]; rfl, by rw [cell_of h]; rfl, by rw [cell_of h]; rfl⟩
end Go.Proofs.Ytlngeaacjbdmhaa
