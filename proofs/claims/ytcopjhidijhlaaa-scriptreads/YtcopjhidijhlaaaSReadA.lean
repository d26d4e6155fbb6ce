/-
  CallReads: a row of which one byte is turned, and that is cut; what both Decodes answer.
-/
import Derived.Test.YtcopjhidijhlaaaSEDec
import Derived.Test.YtcopjhidijhlaaaSBackA
namespace Go.Proofs.Ytcopjhidijhlaaa.Cl
open Go.RowKit

theorem bwPut {W : World} {B n c g k : Nat} {l : List UInt8} (h : Bw W B (.slice (some ⟨g, 0, none⟩) n c) l) (hk : k < l.length) :
    (∃ y : UInt8, W.cell? ⟨g, k, none⟩ = some (.int .u8 y.toNat)) ∧ W.frozen? ⟨g, k, none⟩ = false ∧ B ≤ g ∧ ∀ d : UInt8, Bw (W.setCell ⟨g, k, none⟩ (.int .u8 d.toNat)) B (.slice (some ⟨g, 0, none⟩) n c) (l.set k d) := by
  obtain ⟨h1, -⟩ | ⟨g', cap, cur, fz, h1, h2, h3, h4, h5, h6, h7, h8⟩ := h
  · cases h1
  · simp at h1
    obtain ⟨rfl, rfl, rfl⟩ := h1
    have hkc : k < cur.size := by omega
    have hck : cur.toList[k]? = some (.int .u8 (l[k]'hk).toNat) := by
      have e := congrArg (·[k]?) h8
      simp only [List.getElem?_take_of_lt hk] at e
      rw [e]
      exact bc_get (List.getElem?_eq_getElem hk)
    refine ⟨⟨l[k]'hk, by rw [cell_of h3]; simpa using hck⟩, ?_, h2, fun d => .inr ⟨g, c, cur.setIfInBounds k (.int .u8 d.toNat), fz, by rw [List.length_set], h2, heap_set h3 k _, ?_, by rw [List.length_set]; exact h5, h6, by simpa using h7, ?_⟩⟩
    · obtain ⟨lo, hi⟩ := fz
      simp only [World.frozen?, h3, Bool.and_eq_false_iff, decide_eq_false_iff_not]
      rcases h4 with h4 | h4
      · right; simp only at h4; omega
      · left; simp only at h4; omega
    · simpa using h4
    · rw [List.length_set, bc_set, ← h8, Array.toList_setIfInBounds, List.take_set]
theorem bwCut {W : World} {B n c g k : Nat} {l : List UInt8} (h : Bw W B (.slice (some ⟨g, 0, none⟩) n c) l) (hk : k ≤ l.length) : Bw W B (.slice (some ⟨g, 0, none⟩) k c) (l.take k) := by
  obtain ⟨h1, -⟩ | ⟨g', cap, cur, fz, h1, h2, h3, h4, h5, h6, h7, h8⟩ := h
  · cases h1
  · simp at h1
    obtain ⟨rfl, rfl, rfl⟩ := h1
    have hl : (l.take k).length = k := by rw [List.length_take]; omega
    refine .inr ⟨g, c, cur, fz, by rw [hl], h2, h3, h4, by rw [hl]; omega, h6, h7, ?_⟩
    rw [hl]
    have e : cur.toList.take k = (cur.toList.take l.length).take k := by rw [List.take_take]; congr 1; omega
    rw [e, h8]
    simp [Lib.byteCells, List.map_take]
theorem bwForm5 {W : World} {B : Nat} {v : Value} {l : List UInt8} (h : Bw W B v l) : ∃ a c, v = .slice a l.length c ∧ By W W.heap.size a l ∧ l.length ≤ c ∧ c ≤ maxLen ∧ (a = none → c = 0) := by
  have hf := h.form
  obtain ⟨rfl, rfl⟩ | ⟨g, cap, cur, fz, rfl, h2, h3, h4, h5, h6, h7, h8⟩ := h
  · exact ⟨none, 0, rfl, By.nil _ _ _, Nat.le_refl _, Nat.zero_le _, fun _ => rfl⟩
  · obtain ⟨a, c, e, h9, -⟩ := hf
    simp at e
    exact ⟨some ⟨g, 0, none⟩, cap, rfl, by rw [e.1]; exact h9, h5, h6, fun e => by cases e⟩
theorem xor_u8 (a b : Int) : ∃ d : UInt8, bits .xor .u8 a b = ((d.toNat : Nat) : Int) := by
  have h : ∃ z : Int, bits .xor .u8 a b = IntKind.u8.wrap z := ⟨_, rfl⟩
  obtain ⟨z, h⟩ := h
  rw [h, IntKind.wrap_u8]
  refine ⟨UInt8.ofNat (z % 256).toNat, ?_⟩
  rw [UInt8.toNat_ofNat']
  omega
/-- The call that both answer; how many bytes are its. -/
def yy (l : List UInt8) : Cc := if dwhy l = 0 then dcc l else cc0
def mm (l : List UInt8) : Nat := if dwhy l = 0 then l.length - (q9 l).1.length else 0
theorem cc_right (x : Cc) : 0 ≤ x.right ∧ x.right ≤ 3 := by
  unfold Cc.right
  repeat' split
  all_goals decide
theorem dwhy_le (l : List UInt8) : 0 ≤ dwhy l ∧ dwhy l ≤ 10 := by
  unfold dwhy
  split
  · decide
  · have := cc_right (dcc l)
    omega
theorem both {l : List UInt8} {w w' : World} {e : Ending} (h : ((dwhy l ≠ 0 ∧ e = .returned (.tuple #[.agg Z0, I 0, I (dwhy l)])) ∨ (dwhy l = 0 ∧ ∃ v, e = .returned (.tuple #[.agg ((dcc l).cs v), I ((l.length - (q9 l).1.length : Nat) : Int), I 0]) ∧ Bw w' w.heap.size v (dcc l).data)) ∧ Below w.heap.size w w') :
    (∃ a k, e = .returned (.tuple #[.agg ((yy l).cs (.slice a (yy l).data.length k)), I (mm l : Nat), I (dwhy l)]) ∧ By w' w'.heap.size a (yy l).data) ∧ Below w.heap.size w w' := by
  refine ⟨?_, h.2⟩
  rcases h.1 with ⟨h1, rfl⟩ | ⟨h1, v, rfl, r⟩
  · unfold yy mm
    rw [if_neg h1, if_neg h1]
    exact ⟨none, 0, rfl, By.nil _ _ _⟩
  · unfold yy mm
    rw [if_pos h1, if_pos h1, h1]
    obtain ⟨a, k, rfl, hby, -⟩ := r.form
    exact ⟨a, k, rfl, hby⟩
theorem pdec (l : List UInt8) (a : Option Addr) (n c : Nat) (hn : n = l.length) (hc : l.length ≤ c) (hm : c ≤ maxLen) (hnn : a = none → c = 0) (w : World) (hb : By w w.heap.size a l) :
    Calls Try.prog 47 #[.slice a n c] w fun e w' => (∃ a k, e = .returned (.tuple #[.agg ((yy l).cs (.slice a (yy l).data.length k)), I (mm l : Nat), I (dwhy l)]) ∧ By w' w'.heap.size a (yy l).data) ∧ Below w.heap.size w w' :=
  (decode_any l a n c hn hc hm hnn w hb).mono fun _ _ h => both h
theorem rdec (l : List UInt8) (a : Option Addr) (n c : Nat) (hn : n = l.length) (hc : l.length ≤ c) (hm : c ≤ maxLen) (hnn : a = none → c = 0) (w : World) (hb : By w w.heap.size a l) :
    Calls Try.prog 26 #[.slice a n c] w fun e w' => (∃ a k, e = .returned (.tuple #[.agg ((yy l).cs (.slice a (yy l).data.length k)), I (mm l : Nat), I (dwhy l)]) ∧ By w' w'.heap.size a (yy l).data) ∧ Below w.heap.size w w' :=
  (edec_any l a n c hn hc hm hnn w hb).mono fun _ _ h => both h
end Go.Proofs.Ytcopjhidijhlaaa.Cl
