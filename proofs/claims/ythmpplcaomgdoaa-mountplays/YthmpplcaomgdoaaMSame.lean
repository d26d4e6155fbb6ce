/-
  warrenbook's Same over two slices of numbers.
-/
import Derived.Test.YthmpplcaomgdoaaMList
namespace Go.Proofs.Ythmpplcaomgdoaa.Mt
open Go.RowKit
attribute [local go_sem ↓] Go.wp_at_zero Go.wp_at_succ

/-- A slice of numbers that is read. -/
structure Sl (W : World) (a : Option Addr) (xs : List Int) : Prop where
  at' : ∀ (i : Nat) (x : Int), xs[i]? = some x → ∃ g, a = some ⟨g, 0, none⟩ ∧ W.cell? ⟨g, i, none⟩ = some (I x)
theorem Sl.of {W : World} {base : Nat} {v : Value} {xs : List Int} (h : W.ownsRow base 3 1 v xs.length (ints xs)) : ∃ a cap, v = .slice a xs.length cap ∧ Sl W a xs := by
  obtain ⟨a, cap, rfl⟩ := own_form h
  refine ⟨a, cap, rfl, ⟨fun i x hi => ?_⟩⟩
  have hl := (List.getElem?_eq_some_iff.1 hi).1
  obtain ⟨g, cap', cur, e, _, hg, _, _, _, hx⟩ := own_open h (by omega)
  simp only [Value.slice.injEq] at e
  exact ⟨g, e.1, hx i (I x) (by simp [ints, hi])⟩
theorem Sl.below {W W' : World} {a : Option Addr} {xs : List Int} (h : Sl W a xs) (hb : Below W.heap.size W W') : Sl W' a xs := by
  refine ⟨fun i x hi => ?_⟩
  obtain ⟨g, e, hc⟩ := h.at' i x hi
  refine ⟨g, e, ?_⟩
  have hg : g < W.heap.size := by
    rcases Nat.lt_or_ge g W.heap.size with h1 | h1
    · exact h1
    · simp [World.cell?, Array.getElem?_eq_none h1] at hc
  exact (World.cell?_of_block (hb.block g hg)).trans hc
theorem take_next {xs ys : List Int} {k : Nat} {x : Int} (h : xs.take k = ys.take k) (hx : xs[k]? = some x) (hy : ys[k]? = some x) : xs.take (k + 1) = ys.take (k + 1) := by
  rw [List.take_add_one, List.take_add_one, h, hx, hy]
set_option maxRecDepth 100000 in
set_option maxHeartbeats 1000000 in
theorem same_any (a1 a2 : Option Addr) (c1 c2 : Nat) (xs ys : List Int) (w : World) (h1 : Sl w a1 xs) (h2 : Sl w a2 ys) (hx : xs.length ≤ 1000) :
    Calls Try.prog 14 #[.slice a1 xs.length c1, .slice a2 ys.length c2] w fun e w' => e = .returned (.bool (decide (xs = ys))) ∧ Below w.heap.size w w' := by
  by_cases hl : xs.length = ys.length
  · have HS1 := hide h1
    have HS2 := hide h2
    have Hl := hide hl
    rw [← hl]
    obtain ⟨n, hn⟩ : ∃ n, n = xs.length := ⟨_, rfl⟩
    rw [← hn]
    have Hn := hide hn
    rw [← hn] at hx
    clear h1 h2 hl hn
    go_enter Try.func14, Try.ntmps14
    go_wp2_with fail
    go_loopw [5] (fun v wr => ∃ k : Nat, v = I k ∧ k ≤ n ∧ xs.take k = ys.take k ∧ Below w.heap.size w wr) (fun v _ => n - (intOf v).toNat)
    case atStart => exact ⟨0, rfl, Nat.zero_le _, by simp, Below.refl _ _⟩
    case round =>
      obtain ⟨k, rfl, hk, he, hb⟩ := hrel
      by_cases hkn : k < n
      · obtain ⟨x, ex⟩ : ∃ x, xs[k]? = some x := ⟨_, List.getElem?_eq_getElem (by have := unhide Hn; omega)⟩
        obtain ⟨y, ey⟩ : ∃ y, ys[k]? = some y := ⟨_, List.getElem?_eq_getElem (by have := unhide Hn; have := unhide Hl; omega)⟩
        obtain ⟨g, rfl, p1⟩ := ((unhide HS1).below hb).at' k x ex
        obtain ⟨g', rfl, p2⟩ := ((unhide HS2).below hb).at' k y ey
        have HB := hide hb
        clear hb
        have j1 : (k : Int) < (n : Int) := by omega
        have j0 : (0 : Int) ≤ (k : Int) := by omega
        by_cases hxy : x = y
        · subst hxy
          have HN := hide (take_next he ex ey)
          clear he ex ey
          go_wp2_with fail
          go_region_held3 (fun w' => w'.cell? ⟨g, k, none⟩ = some (I x) ∧ w'.cell? ⟨g', k, none⟩ = some (I x)) (go_keep) (fail)
          go_wp2_with fail
          go_roundw
          case rel => exact ⟨k + 1, by go_num, by omega, unhide HN, below_drew (unhide HB)⟩
          case measure => simp [intOf]; omega
        · have HN : Hid (xs ≠ ys) := fun e => hxy (by rw [e, ey] at ex; exact (Option.some.inj ex).symm)
          clear he ex ey
          go_wp2_with fail
          go_region_held3 (fun w' => w'.cell? ⟨g, k, none⟩ = some (I x) ∧ w'.cell? ⟨g', k, none⟩ = some (I y)) (go_keep) (fail)
          go_wp2_with fail
          go_ret
          exact ⟨by rw [decide_eq_false (unhide HN)]; rfl, below_drew (unhide HB)⟩
      · obtain rfl : k = n := by omega
        have HE : Hid (xs = ys) := by
          have a1 := unhide Hn
          have a2 := unhide Hl
          rw [List.take_of_length_le (by omega), List.take_of_length_le (by omega)] at he
          exact he
        have HB := hide hb
        clear he hb
        go_wp2_with fail
        go_ret
        exact ⟨by rw [decide_eq_true (unhide HE)]; rfl, unhide HB⟩
  · have HN : Hid (xs ≠ ys) := fun e => hl (by rw [e])
    clear h1 h2
    generalize xs.length = n at *
    generalize ys.length = m at *
    have hnm : ¬ (n : Int) = (m : Int) := by omega
    go_enter Try.func14, Try.ntmps14
    go_wp2_with fail
    go_ret
    exact ⟨by rw [decide_eq_false (unhide HN)]; rfl, Below.refl _ _⟩
end Go.Proofs.Ythmpplcaomgdoaa.Mt
