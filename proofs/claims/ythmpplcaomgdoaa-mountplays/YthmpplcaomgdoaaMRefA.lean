/-
  The document's own table in its two blocks: mounts by their numbers; is, over, Root, Covered.
-/
import Derived.Test.YthmpplcaomgdoaaMApi
import Derived.Sort.AtCall
import Derived.Laws.Cover1
import Derived.Sort.Walk0
namespace Go.Proofs.Ythmpplcaomgdoaa.Mt
open Go.RowKit
attribute [local go_sem ↓] Go.wp_at_zero Go.wp_at_succ

/-- A mount of the document's: the place, its top, whether it is there. -/
structure Rm where
  am : Int
  an : Int
  nd : Int
  lv : Bool
def rrow (p : Rm) : List Value := [I p.am, I p.an, I p.nd, .bool p.lv]
theorem rrow_length (p : Rm) : (rrow p).length = 4 := rfl
theorem rrows_at (es : List Rm) (i : Nat) (p : Rm) (h : es[i]? = some p) : (rowsOf rrow es)[i * 4]? = some (I p.am) ∧ (rowsOf rrow es)[i * 4 + 1]? = some (I p.an) ∧ (rowsOf rrow es)[i * 4 + 2]? = some (I p.nd) ∧ (rowsOf rrow es)[i * 4 + 3]? = some (.bool p.lv) := by
  have e0 := rowsOf_get rrow 4 rrow_length es i 0 p h (by omega)
  have e1 := rowsOf_get rrow 4 rrow_length es i 1 p h (by omega)
  have e2 := rowsOf_get rrow 4 rrow_length es i 2 p h (by omega)
  have e3 := rowsOf_get rrow 4 rrow_length es i 3 p h (by omega)
  rw [show i * 4 = 4 * i + 0 by omega, show 4 * i + 0 + 1 = 4 * i + 1 by omega, show 4 * i + 0 + 2 = 4 * i + 2 by omega, show 4 * i + 0 + 3 = 4 * i + 3 by omega]
  exact ⟨e0, e1, e2, e3⟩
/-- The document's table: its struct in block b, its mounts in a row of their own from base on. -/
structure Rs (base : Nat) (W : World) (b : Nat) (rs : List Rm) : Prop where
  hb : ∃ a cap, W.heap[b]? = some (.cells #[.slice a rs.length cap] 73) ∧ W.ownsRow base 70 4 (.slice a rs.length cap) rs.length (rowsOf rrow rs)
  kb : base ≤ b
  ne : rs ≠ []
section
variable {base : Nat} {W W' : World} {b : Nat} {rs : List Rm}
theorem Rs.lt (h : Rs base W b rs) : b < W.heap.size := by
  obtain ⟨a, cap, h1, _⟩ := h.hb
  exact lt_of_heap h1
theorem Rs.keep (h : Rs base W b rs) (hk : ∀ (k : Nat) (cur : Array Value) (t : TypeId), W.heap[k]? = some (.cells cur t (0, 0)) → (k = b ∨ t = 70) → W'.heap[k]? = W.heap[k]?) : Rs base W' b rs := by
  obtain ⟨a, cap, h1, h2⟩ := h.hb
  exact ⟨⟨a, cap, (hk b _ _ h1 (.inl rfl)).trans h1, own_keep h2 fun k cur hc => hk k cur 70 hc (.inr rfl)⟩, h.kb, h.ne⟩
theorem Rs.below (h : Rs base W b rs) (g : Below W.heap.size W W') : Rs base W' b rs := h.keep fun k _ _ hk _ => g.block k (lt_of_heap hk)
theorem Rs.len (h : Rs base W b rs) : 0 < rs.length := List.length_pos_iff.2 h.ne
/-- What a walk is told of it. -/
theorem Rs.cells (h : Rs base W b rs) : ∃ g cap, W.cell? ⟨b, 0, none⟩ = some (.slice (some ⟨g, 0, none⟩) rs.length cap) ∧ (∀ i, W.frozen? ⟨b, i, none⟩ = false) ∧ (∀ j, W.frozen? ⟨g, j, none⟩ = false) ∧ g < W.heap.size ∧
    ∀ (i : Nat) (p : Rm), rs[i]? = some p → W.cell? ⟨g, i * 4, none⟩ = some (I p.am) ∧ W.cell? ⟨g, i * 4 + 1, none⟩ = some (I p.an) ∧ W.cell? ⟨g, i * 4 + 2, none⟩ = some (I p.nd) ∧ W.cell? ⟨g, i * 4 + 3, none⟩ = some (.bool p.lv) := by
  obtain ⟨a, cap, h1, h2⟩ := h.hb
  obtain ⟨g, cap', cur, e1, _, hg, _, _, _, hx⟩ := own_open h2 (by have := h.len; omega)
  simp only [Value.slice.injEq] at e1
  obtain ⟨rfl, -, -⟩ := e1
  refine ⟨g, cap, by rw [cell_of h1]; rfl, frozen_of h1, frozen_of hg, lt_of_heap hg, fun i p hi => ?_⟩
  obtain ⟨p0, p1, p2, p3⟩ := rrows_at rs i p hi
  exact ⟨hx _ _ p0, hx _ _ p1, hx _ _ p2, hx _ _ p3⟩
end
/-- What is tells. -/
def rIs (rs : List Rm) (m : Int) : Bool := decide (0 ≤ m) && (match rs[m.toNat]? with | some p => p.lv | none => false)
set_option maxRecDepth 100000 in
set_option maxHeartbeats 1000000 in
theorem ris_any (base b : Nat) (rs : List Rm) (m : Int) (w : World) (h : Rs base w b rs) :
    Calls Try.prog 37 #[.pointer (some ⟨b, 0, none⟩), I m] w fun e w' => e = .returned (.bool (rIs rs m)) ∧ w' = w := by
  obtain ⟨g, cap, c0, _, _, _, hc⟩ := h.cells
  have hlen := h.len
  by_cases h0 : 0 ≤ m
  · obtain ⟨j, rfl⟩ : ∃ j : Nat, m = (j : Int) := ⟨m.toNat, by omega⟩
    by_cases hj : j < rs.length
    · obtain ⟨p, hp⟩ : ∃ p, rs[j]? = some p := ⟨_, List.getElem?_eq_getElem hj⟩
      obtain ⟨_, _, _, d3⟩ := hc j p hp
      have HR : Hid (rIs rs (j : Int) = p.lv) := by simp [Hid, rIs, hp]
      have j1 : (j : Int) < (rs.length : Int) := by omega
      obtain ⟨lv, hlv⟩ : ∃ lv, lv = p.lv := ⟨_, rfl⟩
      rw [← hlv] at d3 HR
      clear hc hp hlv h
      generalize rs.length = n at *
      go_enter Try.func37, Try.ntmps37
      go_wp2_with fail
      go_ret
      exact ⟨by rw [unhide HR]; rfl, rfl⟩
    · have HR : Hid (rIs rs (j : Int) = false) := by
        simp only [Hid, rIs, Int.toNat_natCast, List.getElem?_eq_none (Nat.le_of_not_lt hj)]; simp
      have j1 : ¬ (j : Int) < (rs.length : Int) := by omega
      clear hc h
      generalize rs.length = n at *
      go_enter Try.func37, Try.ntmps37
      go_wp2_with fail
      go_ret
      exact ⟨by rw [unhide HR]; rfl, rfl⟩
  · have HR : Hid (rIs rs m = false) := by simp [Hid, rIs, h0]
    clear hc h
    go_enter Try.func37, Try.ntmps37
    go_wp2_with fail
    go_ret
    exact ⟨by rw [unhide HR]; rfl, rfl⟩
end Go.Proofs.Ythmpplcaomgdoaa.Mt
