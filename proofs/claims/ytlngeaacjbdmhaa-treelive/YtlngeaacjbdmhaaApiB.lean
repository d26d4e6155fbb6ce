/-
  More calls of a tree that is well formed, with named answers.
-/
import Derived.Test.YtlngeaacjbdmhaaApi
import Derived.Test.YtlngeaacjbdmhaaMove
import Derived.Test.YtlngeaacjbdmhaaNames
namespace Go.Proofs.Ytlngeaacjbdmhaa
open Go.RowKit Go.Maps

section
variable {lo N : Nat} {W W' : World} {t : Nat} {T : Tr} {B : Nat}
theorem join_Q (h : Tq lo N W t T B) (hB : B ≤ 880) {dir n : Int} (hn : (kl dir).wf = true) (hnn : (kl n).wf = true) (s : ByteArray) (y : Int) (T' : Tr) (hy : T.joinE dir s n = y) (hT : T.join dir s n = T') :
    Calls Try.prog 8 #[P0 t, I dir, .string s, I n] W fun e w' => e = .returned (I y) ∧ Hid (Tq lo N w' t T' (B + 1)) ∧ Hid (Tx lo W w') := by
  obtain ⟨⟨q, p, nb, ev, h1⟩, h2⟩ := h
  refine (join_any h1 h2.k (by omega) hn hnn s).mono ?_
  rintro e w' ⟨rfl, h3, h4⟩
  rw [hy]
  have := h2.join dir s n
  rw [hT] at this h3
  exact ⟨rfl, ⟨h3, this⟩, h4⟩
theorem move_Q (h : Tq lo N W t T B) (hB : B ≤ 880) {dir to : Int} (hn : (kl dir).wf = true) (hto : (kl to).wf = true) (s s2 : ByteArray) {l : List Int} (hl : Ab T to l) (y : Int) (T' : Tr) (hy : T.moveE l dir s to s2 = y) (hT : T.move l dir s to s2 = T') :
    Calls Try.prog 10 #[P0 t, I dir, .string s, I to, .string s2] W fun e w' => e = .returned (I y) ∧ Hid (Tq lo N w' t T' (B + 1)) ∧ Hid (Tx lo W w') := by
  obtain ⟨⟨q, p, nb, ev, h1⟩, h2⟩ := h
  refine (move_any h1 h2 hB hn hto s s2 hl).mono ?_
  rintro e w' ⟨rfl, h3, h4⟩
  rw [hy]
  have := h2.move dir s to s2 hl
  rw [hT] at this h3
  exact ⟨rfl, ⟨h3, this⟩, h4⟩
theorem up_Q (h : Tq lo N W t T B) {n : Int} (hn : (kl n).wf = true) (y : Int) (hy : T.up n = y) :
    Calls Try.prog 17 #[P0 t, I n] W fun e w' => e = .returned (I y) ∧ Hid (Tq lo N w' t T B) ∧ Hid (Below W.heap.size W w') := by
  have h' := h
  obtain ⟨⟨q, p, nb, ev, h1⟩, h2⟩ := h
  refine (up_any h1 hn).mono ?_
  rintro e w' ⟨rfl, k, rfl⟩
  rw [hy]
  exact ⟨rfl, h'.below (below_n _ k), below_n _ k⟩
theorem names_Q (h : Tq lo N W t T B) (hB : B ≤ 880) {n : Int} (hn : (kl n).wf = true) :
    Calls Try.prog 14 #[P0 t, I n] W fun e w' => ∃ v, e = .returned v ∧ Hid (Rs W.heap.size w' v (T.names n)) ∧ Hid (Tq lo N w' t T B) ∧ Hid (Below W.heap.size W w') := by
  have h' := h
  obtain ⟨⟨q, p, nb, ev, h1⟩, h2⟩ := h
  refine (names_any h1 h2.k (by omega) hn).mono ?_
  rintro e w' ⟨v, rfl, hr, hb⟩
  exact ⟨v, rfl, hr, h'.below hb, hb⟩
end
end Go.Proofs.Ytlngeaacjbdmhaa
