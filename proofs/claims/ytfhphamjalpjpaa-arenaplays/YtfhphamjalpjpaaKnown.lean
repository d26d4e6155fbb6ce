/-
  Some of the chapter's runs: known answers true and turns nothing that lay.
-/
import Derived.Test.YtfhphamjalpjpaaNew
namespace Go.Proofs.Ytfhphamjalpjpaa
open Go.RowKit
attribute [local go_sem ↓] Go.wp_at_zero Go.wp_at_succ

/-- A handle in a variable's block. -/
abbrev hObj (s g : Int) : Obj := .cells #[.int .i64 s, .int .i64 g] 29
theorem stored (w : World) (s g : Int) : ∃ V : World, w.alloc (hObj s g) = V ∧ V.heap[w.heap.size]? = some (hObj s g) ∧ Below w.heap.size w V ∧ V.heap.size = w.heap.size + 1 :=
  ⟨_, rfl, putAll (w := w) (hObj s g) w.heap.size rfl, (Below.refl _ _).alloc (Nat.le_refl _) _, by simp⟩
theorem hcells {W : World} {B : Nat} {s g : Int} (h : W.heap[B]? = some (hObj s g)) : W.cell? ⟨B, 0, none⟩ = some (.int .i64 s) ∧ W.cell? ⟨B, 1, none⟩ = some (.int .i64 g) ∧ ∀ i, W.frozen? ⟨B, i, none⟩ = false :=
  ⟨by rw [cell_of h]; rfl, by rw [cell_of h]; rfl, frozen_of h⟩

set_option maxRecDepth 100000 in
set_option maxHeartbeats 1000000 in
theorem known_true (w : World) : Calls Try.prog 17 #[] w fun e w' => e = .returned (.bool true) ∧ Below w.heap.size w w' := by
  go_enter Try.func17, Try.ntmps17
  go_wp2_with fail
  refine (new_good 2 (by omega) (by omega) w).mono ?_
  rintro e w0 ⟨c, d, rfl, hc, hd, hA0, hB⟩
  have hb : w.heap.size ≤ w.heap.size + 2 := by omega
  generalize w.heap.size + 2 = b at *
  replace hA0 : Ar w0 b c d 2 [(0, 0), (0, 0)] [0, 1] 0 := hA0
  have hs0 := hB.size
  go_wp2_with fail
  refine (take_yes b c d 2 0 _ _ _ 5 0 0 w0 hA0 rfl (by omega) (by omega)).mono ?_
  rintro e w1 ⟨rfl, hA1, hF1⟩
  replace hA1 : Ar w1 b c d 2 [(1, 5), (0, 0)] [1] 0 := hA1
  replace hB := hB.trans (hF1.below hb hc hd hs0)
  have hs1 := hB.size
  clear hs0 hA0 hF1
  obtain ⟨w2, hx, kh, hK, hz⟩ := stored w1 0 1
  go_wp2_with fail
  have hA2 := hA1.below hK
  have nh : w1.heap.size ≠ b ∧ w1.heap.size ≠ c ∧ w1.heap.size ≠ d := by have := hA1.lt; omega
  replace hB := hB.trans (hK.mono hs1)
  have hs2 := hB.size
  clear hx hK hz hA1 hs1
  generalize w1.heap.size = Bh at *
  refine (take_yes b c d 2 1 _ _ _ 6 0 0 w2 hA2 rfl (by omega) (by omega)).mono ?_
  rintro e w3 ⟨rfl, hA3, hF3⟩
  replace hA3 : Ar w3 b c d 2 [(1, 5), (1, 6)] [] 0 := hA3
  replace hB := hB.trans (hF3.below hb hc hd hs2)
  replace kh := (hF3.block Bh (lt_of_heap kh) nh.1 nh.2.1 nh.2.2).trans kh
  have hs3 := hB.size
  clear hs2 hA2 hF3
  obtain ⟨w4, hx, ki, hK, hz⟩ := stored w3 1 1
  go_wp2_with fail
  have hA4 := hA3.below hK
  have ni : w3.heap.size ≠ b ∧ w3.heap.size ≠ c ∧ w3.heap.size ≠ d := by have := hA3.lt; omega
  replace hB := hB.trans (hK.mono hs3)
  replace kh := (hK.block Bh (lt_of_heap kh)).trans kh
  have hs4 := hB.size
  clear hx hK hz hA3 hs3
  generalize w3.heap.size = Bi at *
  refine (take_no b c d 2 _ _ 7 w4 hA4).mono ?_
  rintro e w5 ⟨rfl, hA5, hF5⟩
  replace hB := hB.trans (hF5.mono hs4)
  replace kh := (hF5.block Bh (lt_of_heap kh)).trans kh
  replace ki := (hF5.block Bi (lt_of_heap ki)).trans ki
  have hs5 := hB.size
  clear hs4 hA4 hF5
  obtain ⟨yh0, yh1, yhf⟩ := hcells ((((Below.refl _ w5).alloc (Nat.le_refl _) (hObj 0 0)).block Bh (lt_of_heap kh)).trans kh)
  go_wp2_with fail
  clear yh0 yh1 yhf
  obtain ⟨w6, hx, kz, hK, hz⟩ := stored w5 0 0
  rw [hx]
  have hA6 := hA5.below hK
  have nz : w5.heap.size ≠ b ∧ w5.heap.size ≠ c ∧ w5.heap.size ≠ d := by have := hA5.lt; omega
  replace hB := hB.trans (hK.mono hs5)
  replace kh := (hK.block Bh (lt_of_heap kh)).trans kh
  replace ki := (hK.block Bi (lt_of_heap ki)).trans ki
  have hs6 := hB.size
  clear hx hK hz hA5 hs5
  generalize w5.heap.size = Bz at *
  refine (free_ok b c d 2 0 _ _ _ 1 5 w6 hA6 rfl (by omega) (by omega) (by omega) (by simp)).mono ?_
  rintro e w7 ⟨rfl, hA7, hF7⟩
  replace hA7 : Ar w7 b c d 2 [(2, 0), (1, 6)] [0] 0 := hA7
  replace hB := hB.trans (hF7.below hb hc hd hs6)
  replace kh := (hF7.block Bh (lt_of_heap kh) nh.1 nh.2.1 nh.2.2).trans kh
  replace ki := (hF7.block Bi (lt_of_heap ki) ni.1 ni.2.1 ni.2.2).trans ki
  replace kz := (hF7.block Bz (lt_of_heap kz) nz.1 nz.2.1 nz.2.2).trans kz
  have hs7 := hB.size
  clear hs6 hA6 hF7
  obtain ⟨yh0, yh1, yhf⟩ := hcells kh
  go_wp2_with fail
  clear yh0 yh1 yhf
  refine (get_bad b c d 2 _ _ _ 0 1 14 1 w7 hA7 (.inr ⟨rfl, rfl, 0, 2, 0, rfl, rfl, by omega, by omega⟩) (by omega) (by omega)).mono ?_
  rintro e w8 ⟨rfl, hA8, hF8⟩
  replace hA8 : Ar w8 b c d 2 [(2, 0), (1, 6)] [0] 1 := hA8
  replace hB := hB.trans (hF8.below hb hc hd hs7)
  replace kh := (hF8.block Bh (lt_of_heap kh) nh.1 nh.2.1 nh.2.2).trans kh
  replace ki := (hF8.block Bi (lt_of_heap ki) ni.1 ni.2.1 ni.2.2).trans ki
  replace kz := (hF8.block Bz (lt_of_heap kz) nz.1 nz.2.1 nz.2.2).trans kz
  have hs8 := hB.size
  clear hs7 hA7 hF8
  go_wp2_with fail
  refine (take_yes b c d 2 0 _ _ _ 9 2 0 w8 hA8 rfl (by omega) (by omega)).mono ?_
  rintro e w9 ⟨rfl, hA9, hF9⟩
  replace hA9 : Ar w9 b c d 2 [(3, 9), (1, 6)] [] 1 := hA9
  replace hB := hB.trans (hF9.below hb hc hd hs8)
  replace kh := (hF9.block Bh (lt_of_heap kh) nh.1 nh.2.1 nh.2.2).trans kh
  replace ki := (hF9.block Bi (lt_of_heap ki) ni.1 ni.2.1 ni.2.2).trans ki
  replace kz := (hF9.block Bz (lt_of_heap kz) nz.1 nz.2.1 nz.2.2).trans kz
  have hs9 := hB.size
  clear hs8 hA8 hF9
  obtain ⟨w10, hx, kj, hK, hz⟩ := stored w9 0 3
  replace kh := (hK.block Bh (lt_of_heap kh)).trans kh
  replace ki := (hK.block Bi (lt_of_heap ki)).trans ki
  replace kz := (hK.block Bz (lt_of_heap kz)).trans kz
  obtain ⟨yh0, yh1, yhf⟩ := hcells kh
  obtain ⟨yi0, yi1, yif⟩ := hcells ki
  obtain ⟨yz0, yz1, yzf⟩ := hcells kz
  obtain ⟨yj0, yj1, yjf⟩ := hcells kj
  replace hB := hB.trans (hK.mono hs9)
  go_wp2_with fail
  go_ret
  exact ⟨rfl, hB⟩
end Go.Proofs.Ytfhphamjalpjpaa
