/-
  The document's run: all that a walk is told of one of its jobs.
-/
import Derived.Test.YtkgeapmafpeapaaRHold
namespace Go.Proofs.Ytkgeapmafpeapaa
open Go.RowKit

theorem RSys.cellsL {W : World} {rr b c aa ca la sa n cap l : Nat} {jp : Option Addr} {ws : List Int} {st : Int} {xs : List RJ} (h : RSys W rr b c aa ca la sa n jp cap ws st xs) (hl : xs.length = l) :
    W.cell? ⟨rr, 0, none⟩ = some (.pointer (some ⟨b, 0, none⟩)) ∧ W.cell? ⟨rr, 1, none⟩ = some (.slice jp l cap) ∧ W.cell? ⟨rr, 2, none⟩ = some (.slice (some ⟨aa, 0, none⟩) l l) ∧ W.cell? ⟨rr, 3, none⟩ = some (.slice (some ⟨ca, 0, none⟩) l l) ∧
    W.cell? ⟨rr, 4, none⟩ = some (.slice (some ⟨la, 0, none⟩) l l) ∧ W.cell? ⟨rr, 5, none⟩ = some (.slice (some ⟨sa, 0, none⟩) l l) := by
  subst hl; exact h.rcells
theorem RSys.at {W : World} {rr b c aa ca la sa n cap k : Nat} {jp : Option Addr} {ws : List Int} {st : Int} {xs : List RJ} {x : RJ} (h : RSys W rr b c aa ca la sa n jp cap ws st xs) (hk : xs[k]? = some x) :
    W.cell? ⟨aa, k, none⟩ = some (.int .i64 x.pl) ∧ W.cell? ⟨ca, k, none⟩ = some (.int .i64 x.cnt) ∧ W.cell? ⟨la, k, none⟩ = some (.int .i64 x.lft) ∧
    W.cell? ⟨sa, k * 4, none⟩ = some (.bool x.st.done) ∧ W.cell? ⟨sa, k * 4 + 1, none⟩ = some (.int .i64 x.st.sA) ∧ W.cell? ⟨sa, k * 4 + 2, none⟩ = some (.int .i64 x.st.sB) ∧ W.cell? ⟨sa, k * 4 + 3, none⟩ = some (.int .i64 x.st.tries) := by
  have hks : (xs.map RJ.st)[k]? = some x.st := by simp [hk]
  exact ⟨ints_cell h.ha hk, ints_cell h.hc hk, ints_cell h.hl hk, rows_cell St.row_length h.hs hks 0 (by omega), rows_cell St.row_length h.hs hks 1 (by omega), rows_cell St.row_length h.hs hks 2 (by omega), rows_cell St.row_length h.hs hks 3 (by omega)⟩
theorem RSys.fz {W : World} {rr b c aa ca la sa n cap : Nat} {jp : Option Addr} {ws : List Int} {st : Int} {xs : List RJ} (h : RSys W rr b c aa ca la sa n jp cap ws st xs) : (∀ i, W.frozen? ⟨aa, i, none⟩ = false) ∧ (∀ i, W.frozen? ⟨ca, i, none⟩ = false) ∧ (∀ i, W.frozen? ⟨la, i, none⟩ = false) ∧ (∀ i, W.frozen? ⟨sa, i, none⟩ = false) :=
  ⟨frozen_of h.ha, frozen_of h.hc, frozen_of h.hl, frozen_of h.hs⟩
theorem RSys.nes {W : World} {rr b c aa ca la sa n cap : Nat} {jp : Option Addr} {ws : List Int} {st : Int} {xs : List RJ} (h : RSys W rr b c aa ca la sa n jp cap ws st xs) : rr ≠ aa ∧ rr ≠ ca ∧ rr ≠ sa ∧ aa ≠ ca ∧ aa ≠ sa ∧ ca ≠ sa ∧ aa ≠ rr ∧ ca ≠ rr ∧ sa ≠ rr ∧ ca ≠ aa ∧ sa ≠ aa ∧ sa ≠ ca := by
  obtain ⟨_, _, n1, n2, _, n3⟩ := h.nr
  obtain ⟨_, _, n4, _, n5⟩ := h.na
  obtain ⟨_, _, _, n6⟩ := h.nc
  exact ⟨n1, n2, n3, n4, n5, n6, Ne.symm n1, Ne.symm n2, Ne.symm n3, Ne.symm n4, Ne.symm n5, Ne.symm n6⟩
end Go.Proofs.Ytkgeapmafpeapaa
