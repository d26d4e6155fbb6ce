/-
  What was answered stays while a Grace goes on: rows of numbers are kept by the frame of its calls.
-/
import Derived.Test.YtkgcgfnleabkdaaKnown
namespace Go.Proofs.Ytkgcgfnleabkdaa
open Go.RowKit

theorem own_fr {base b c base' n : Nat} {W W' : World} {e : TypeId} {s : Nat} {v : Value} {xs : List Value} (F : Fr base b c W W') (h : W.ownsRow base' e s v n xs) (he : e ≠ 58) (hb : b < base') (hc : c < base') : W'.ownsRow base' e s v n xs := by
  obtain ⟨h0, h1 | ⟨g, cap, cur, rfl, h2, h3, h4⟩⟩ := h
  · exact ⟨h0, .inl h1⟩
  · exact ⟨h0, .inr ⟨g, cap, cur, rfl, h2, F.blk g _ h3 (by omega) (by omega) (by intro cur' hc'; simp at hc'; exact he hc'.2), h4⟩⟩
theorem own_below {base' n : Nat} {W W' : World} {e : TypeId} {s : Nat} {v : Value} {xs : List Value} (F : Below W.heap.size W W') (h : W.ownsRow base' e s v n xs) : W'.ownsRow base' e s v n xs :=
  own_keep h fun k _ hc => F.block k (lt_of_heap hc)
theorem Gr.to {base b c n : Nat} {W : World} {ss ss' : List Int} {ws ws' : List Wt} (h : Gr base W b c n ss ws) (e1 : ss = ss') (e2 : ws = ws') : Gr base W b c n ss' ws' := by subst e1 e2; exact h
end Go.Proofs.Ytkgcgfnleabkdaa
