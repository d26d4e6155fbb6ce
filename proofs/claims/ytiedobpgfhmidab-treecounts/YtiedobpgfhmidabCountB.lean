/-
  What lies while all that lives is looked at.
-/
import Derived.Test.YtiedobpgfhmidabCountA
namespace Go.Proofs.Ytiedobpgfhmidab
open Go.RowKit Go.Maps

theorem less_of : ∀ {a b : List UInt8}, cmpL a b < 0 → Op.bytesLess a b = true
  | [], [], h => by simp [cmpL, Lib.compareBytes] at h
  | [], _ :: _, _ => by simp [Op.bytesLess]
  | _ :: _, [], h => by simp [cmpL, Lib.compareBytes] at h
  | x :: a, y :: b, h => by
    simp only [cmpL, Lib.compareBytes] at h
    by_cases h1 : x < y
    · simp [Op.bytesLess, h1]
    · by_cases h2 : y < x
      · rw [if_neg h1, if_pos h2] at h; omega
      · rw [if_neg h1, if_neg h2] at h
        have e : x = y := UInt8.le_antisymm (UInt8.not_lt.1 h2) (UInt8.not_lt.1 h1)
        have := less_of h
        simp [Op.bytesLess, e, this]
theorem str_less {a b : ByteArray} (h : cmpS a b < 0) : Op.bytesLess a.toList b.toList = true := by
  rw [ByteArray.toList_eq, ByteArray.toList_eq]; exact less_of h
/-- The names that were told. -/
def NL (W : World) (ad : Option Addr) (ns : List ByteArray) : Prop := ∀ (k : Nat) s, ns[k]? = some s → ∃ g, ad = some ⟨g, 0, none⟩ ∧ g < W.heap.size ∧ W.cell? ⟨g, k, none⟩ = some (.string s)
theorem NL.below {W W' : World} {ad : Option Addr} {ns : List ByteArray} (h : NL W ad ns) (k : Below W.heap.size W W') : NL W' ad ns := fun j s hj => by
  obtain ⟨g, h1, h2, h3⟩ := h j s hj
  exact ⟨g, h1, Nat.lt_of_lt_of_le h2 k.size, (cell_same (k.block g h2) j).trans h3⟩
theorem Rs.nl {lo : Nat} {W : World} {v : Value} {ns : List ByteArray} (h : Rs lo W v ns) : ∃ ad cap, v = .slice ad ns.length cap ∧ NL W ad ns := by
  by_cases hn : ns.length = 0
  · obtain ⟨ad, cap, hv⟩ := own_form h
    refine ⟨ad, cap, hv, fun k s hk => ?_⟩
    rw [List.eq_nil_of_length_eq_zero hn] at hk
    simp at hk
  · obtain ⟨g, cap, cur, hv, hb, hg, _, _, _, hc⟩ := own_open h hn
    exact ⟨_, cap, hv, fun k s hk => ⟨g, rfl, lt_of_heap hg, hc k (.string s) (by simp only [strV, List.getElem?_map, hk]; rfl)⟩⟩
structure CL (w W : World) (t : Nat) (T : Tr) (B g : Nat) : Prop where
  q : Tq w.heap.size 4 W t T B
  b : Below w.heap.size w W
  c : ∀ i n, T.livesI[i]? = some n → W.cell? ⟨g, i, none⟩ = some (I n)
  l : g < W.heap.size
theorem CL.below {w W W' : World} {t : Nat} {T : Tr} {B g : Nat} (h : CL w W t T B g) (k : Below W.heap.size W W') : CL w W' t T B g :=
  ⟨h.q.below k, h.b.trans (k.mono h.b.size), fun i n hi => (cell_same (k.block g h.l) i).trans (h.c i n hi), Nat.lt_of_lt_of_le h.l k.size⟩
theorem CT.live {w W : World} {t i : Nat} (h : CT w W t i) (hi : i ≤ 50) : ∃ T, Qt T ∧ Wf 110 T ∧ Calls Try.prog 13 #[P0 t] W fun e W' => ∃ g cap, e = .returned (.slice (some ⟨g, 0, none⟩) T.livesI.length cap) ∧ Hid (CL w W' t T 110 g) := by
  obtain ⟨⟨T, h1, h2⟩, h3⟩ := h
  have h4 : Tq w.heap.size 4 W t T 110 := h1.mono (by omega)
  refine ⟨T, h2, h4.f, (live_Q h4 (by omega)).mono ?_⟩
  rintro e W' ⟨v, rfl, R, Q, X⟩
  have hn : T.livesI.length ≠ 0 := by
    obtain ⟨r, g1, _⟩ := h4.f.root
    have := (T.livesI_mem h4.f.k 1).2 (by rw [g1]; rfl)
    intro e
    rw [List.eq_nil_of_length_eq_zero e] at this
    simp at this
  obtain ⟨g, cap, cur, rfl, hb, hg, _, _, _, hc⟩ := own_open (unhide R) hn
  exact ⟨g, cap, rfl, unhide Q, h3.trans ((unhide X).mono h3.size), fun i n hi => hc i (I n) (by simp [hi]), lt_of_heap hg⟩
end Go.Proofs.Ytiedobpgfhmidab
