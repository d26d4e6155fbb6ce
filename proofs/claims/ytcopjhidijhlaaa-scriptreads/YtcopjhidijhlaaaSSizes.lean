/-
  CallSizes' walk.
-/
import Derived.Test.YtcopjhidijhlaaaSIn
namespace Go.Proofs.Ytcopjhidijhlaaa.Cl
open Go.RowKit
attribute [local go_sem ↓] Go.wp_at_zero Go.wp_at_succ

set_option maxHeartbeats 400000 in
theorem within_any (v hi : Int) (w : World) (h0 : 0 ≤ hi) (h1 : hi ≤ 4611686018427387904) :
    Calls Try.prog 14 #[.int .i64 v, .int .i64 0, .int .i64 hi] w fun e w' => (∃ r : Nat, (r : Int) ≤ hi ∧ e = .returned (I (r : Int))) ∧ w' = w := by
  have t1 : v.tmod (hi + 1) < hi + 1 := Int.tmod_lt_of_pos v (by omega)
  have t2 : -(hi + 1) < v.tmod (hi + 1) := by
    have h := Int.tmod_lt_of_pos (-v) (show 0 < hi + 1 by omega)
    rw [Int.neg_tmod] at h
    omega
  have t3 : ¬ hi + 1 = 0 := by omega
  by_cases hn : v.tmod (hi + 1) < 0
  · go_enter Try.func14, Try.ntmps14
    go_wp2
    go_ret
    refine ⟨⟨(v.tmod (hi + 1) + hi + 1).toNat, by omega, ?_⟩, rfl⟩
    rw [Int.toNat_of_nonneg (by omega)]
    rfl
  · go_enter Try.func14, Try.ntmps14
    go_wp2
    go_ret
    refine ⟨⟨(v.tmod (hi + 1)).toNat, by omega, ?_⟩, rfl⟩
    rw [Int.toNat_of_nonneg (by omega)]
    rfl
theorem Bw.some {W : World} {B : Nat} {v : Value} {l : List UInt8} (h : Bw W B v l) (hl : l ≠ []) : ∃ g cap, v = .slice (some ⟨g, 0, none⟩) l.length cap ∧ By W W.heap.size (some ⟨g, 0, none⟩) l ∧ l.length ≤ cap ∧ cap ≤ maxLen ∧ B ≤ g := by
  have hf := h.form
  obtain ⟨-, h2⟩ | ⟨g, cap, cur, fz, rfl, h2, -, -, h5, h6, -⟩ := h
  · exact absurd h2 hl
  · obtain ⟨a, c, e, h7, -⟩ := hf
    simp at e
    exact ⟨g, cap, rfl, by rw [e.1]; exact h7, h5, h6, h2⟩
theorem By.take {W : World} {B : Nat} {a : Option Addr} {l : List UInt8} (h : By W B a l) (k : Nat) : By W B a (l.take k) := fun j c hj => h j c (by
  rw [List.getElem?_take] at hj
  split at hj
  · exact hj
  · cases hj)
/-- Decode of a call's bytes, cut off. -/
theorem dec_no (x : Cc) (hr : x.right = 0) (g c r : Nat) (h : r < x.enc.length) (w : World) (hb : By w w.heap.size (some ⟨g, 0, none⟩) x.enc) (hc : x.enc.length ≤ c) (hm : c ≤ maxLen) :
    Calls Try.prog 47 #[.slice (some ⟨g, 0, none⟩) r c] w fun e w' => e = .returned (.tuple #[.agg Z0, I 0, I 10]) ∧ Below w.heap.size w w' := by
  have hd : dwhy (x.enc.take r) = 10 := dec_cut x hr _ (x.enc.drop r) (List.take_append_drop ..) (by
    intro e
    have := congrArg List.length e
    rw [List.length_drop, List.length_nil] at this
    omega)
  refine (decode_any (x.enc.take r) (some ⟨g, 0, none⟩) r c (by rw [List.length_take]; omega) (by rw [List.length_take]; omega) hm (fun e => by cases e) w (hb.take r)).mono ?_
  rintro e w' ⟨⟨-, rfl⟩ | ⟨h, -⟩, hB⟩
  · rw [hd]
    exact ⟨rfl, hB⟩
  · rw [hd] at h
    cases h
end Go.Proofs.Ytcopjhidijhlaaa.Cl
