/-
  slices.Sort over this program: the library's contract, laid; what it leaves of a row of the call's own.
-/
import Derived.Test.YtbmcnfdciogmjaaAny
import Derived.Shelf.Sort.Plain
import Derived.Shelf.Lay
import Derived.Sort.OwnSorted
import Derived.Maps.AppendAt
namespace Go.Proofs.Ytbmcnfdciogmjaa
open Go.RowKit Go.Sort Go.Shelf
shelf_lay Lays.n190 Nm 190 at Try as Try.lays190

abbrev leB : List UInt8 → List UInt8 → Bool := fun x y => decide (x ≤ y)
theorem sort_own {base : Nat} {w : World} {g cap : Nat} {ss : List (List UInt8)} (h : w.ownsRow base 9 1 (.slice (some ⟨g, 0, none⟩) ss.length cap) ss.length (ss.map encStr)) (hl : ss.length ≤ 1000000) :
    Calls Try.prog 33 #[.slice (some ⟨g, 0, none⟩) ss.length cap] w fun e w' => e = .returned (.tuple #[]) ∧ w'.ownsRow base 9 1 (.slice (some ⟨g, 0, none⟩) ss.length cap) ss.length ((ss.mergeSort leB).map encStr) ∧ w.grownBy w' (some g) := by
  rcases h.2 with ⟨hnil, _⟩ | ⟨g', cap', cur, hv, hbase, hb, h1, h2, h3, h4⟩
  · simp at hnil
  · simp at hv
    obtain ⟨rfl, rfl⟩ := hv
    have hc := Any.slices_Sort_string Try.lays190 g 0 cap ss w (holds_of_block hb (by simpa using h4)) (lt_of_heap hb) (by omega)
    refine Calls.mono (show Calls Try.prog 33 _ w _ from hc) ?_
    rintro e w' ⟨he, n, os, rfl⟩
    have ho := ownsRow_sorted (n := n) (os := os) (ts := ss.mergeSort leB) (ss := ss) (by simp) hbase hb h1 h2 h3
    exact ⟨he, by simpa using ho, grownBy_sorted _⟩
#print axioms sort_own
end Go.Proofs.Ytbmcnfdciogmjaa
