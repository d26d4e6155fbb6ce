/-
  The law's known.
-/
import Derived.Test.YtnkkfomekdipiaaDoorCShow
namespace Go.Proofs.YtnkkfomekdipiaaDoor.Cl
open Go.RowKit Go.Shelf
attribute [local go_sem ↓] Go.wp_at_zero Go.wp_at_succ

def kx : Cc := ⟨1, [47, 97, 32, 98], [], 0, 0, 5, 0, 0, []⟩
def kr1 : Rr := ⟨32, 0, [], [], 0, 0, 0, 0, 0, 0, 0⟩
def kr2 : Rr := ⟨0, 3, [], [], 0, 0, 0, 0, 0, 0, 0⟩
theorem kx_line : kx.line = [109, 107, 100, 105, 114, 32, 47, 97, 37, 50, 48, 98, 32, 109, 111, 100, 101, 61, 53] := by decide +kernel
theorem kr1_line : kr1.line = [101, 114, 114, 111, 114, 32, 51, 50] := by decide +kernel
theorem kr2_line : kr2.line = [111, 107, 32, 110, 61, 51] := by decide +kernel
theorem kx_fits : kx.fits := ⟨fun k => by
  match k with
  | 0 => decide
  | 1 => decide
  | 2 => decide
  | 3 => decide
  | (j + 4) => exact ⟨by show (-9223372036854775808 : Int) ≤ 0; decide, by show (0 : Int) ≤ 9223372036854775807; decide⟩, by decide⟩
theorem kr1_fits : kr1.fits := ⟨by decide, by decide, by decide, by decide, by decide, by decide, by decide, by decide, by decide, by decide⟩
theorem kr2_fits : kr2.fits := ⟨by decide, by decide, by decide, by decide, by decide, by decide, by decide, by decide, by decide, by decide⟩
theorem dwhy_nil : dwhy [] = 10 := by decide +kernel
theorem text_k (w : World) (hO : On w) (h0 : 0 < w.heap.size) (ht : Tab w.heap.size w) :
    Calls Tryd.prog 12 #[.agg #[I 1, .string ⟨#[47, 97, 32, 98]⟩, .string ⟨#[]⟩, I 0, I 0, I 5, I 0, I 0, .slice none 0 0]] w fun e w' => e = .returned (.string ⟨#[109, 107, 100, 105, 114, 32, 47, 97, 37, 50, 48, 98, 32, 109, 111, 100, 101, 61, 53]⟩) ∧ Below w.heap.size w w' := by
  have h := text_any' kx kx_fits none 0 0 rfl w hO h0 ht (By.nil _ _ _)
  rw [kx_line] at h
  exact h
theorem show_k1 (w : World) (ht : Tab w.heap.size w) :
    Calls Tryd.prog 13 #[.agg #[I 32, I 0, .slice none 0 0, .slice none 0 0, I 0, I 0, I 0, I 0, I 0, I 0, I 0]] w fun e w' => e = .returned (.string ⟨#[101, 114, 114, 111, 114, 32, 51, 50]⟩) ∧ Below w.heap.size w w' := by
  have h := show_any kr1 kr1_fits none 0 0 rfl none 0 0 rfl w ht (By.nil _ _ _) (Ns.nil _ _ _)
  rw [kr1_line] at h
  exact h
theorem show_k2 (w : World) (ht : Tab w.heap.size w) :
    Calls Tryd.prog 13 #[.agg #[I 0, I 3, .slice none 0 0, .slice none 0 0, I 0, I 0, I 0, I 0, I 0, I 0, I 0]] w fun e w' => e = .returned (.string ⟨#[111, 107, 32, 110, 61, 51]⟩) ∧ Below w.heap.size w w' := by
  have h := show_any kr2 kr2_fits none 0 0 rfl none 0 0 rfl w ht (By.nil _ _ _) (Ns.nil _ _ _)
  rw [kr2_line] at h
  exact h
theorem dec_k (w : World) : Calls Tryd.prog 11 #[.slice none 0 0] w fun e w' => e = .returned (.tuple #[.agg Z0, I 0, I 10]) ∧ Below w.heap.size w w' := by
  refine (decode_any [] none 0 0 rfl (by simp) (by decide) (fun _ => rfl) w (By.nil _ _ _)).mono ?_
  rintro e w' ⟨⟨-, rfl⟩ | ⟨h, -⟩, hB⟩
  · rw [dwhy_nil]
    exact ⟨rfl, hB⟩
  · rw [dwhy_nil] at h
    cases h
set_option maxRecDepth 100000 in
set_option maxHeartbeats 2000000 in
theorem known_any (w : World) (hO : On w) (h0 : 0 < w.heap.size) (ht : Tab w.heap.size w) : Calls Tryd.prog 14 #[] w fun e w' => e = .returned (.bool true) ∧ Below w.heap.size w w' := by
  have HI := hide (show ∀ W, Below w.heap.size w W → On W ∧ Tab W.heap.size W ∧ 0 < W.heap.size from fun W g => ⟨hO.below h0 g, Tab.on' ht g g.size, Nat.lt_of_lt_of_le h0 g.size⟩)
  have HD := hide (dec_k w)
  clear hO ht h0
  go_enter Tryd.func14, Tryd.ntmps14
  go_wp2_with fail
  refine (unhide HD).mono ?_
  rintro e W1 ⟨rfl, hB1⟩
  obtain ⟨V, hV, hs, g0, hBV⟩ := alloc1 W1 (.cells Z0 27)
  obtain ⟨X1, X2, X3, X4, X5, X6, X7, X8, X9, ⟨y1, y2, y3, y4, y5, y6, y7, y8, y9⟩, ⟨s1, s2, s3, s4, s5, s6, s7, s8, s9⟩, ⟨f1, f2, f3, f4, f5, f6, f7, f8, f9⟩, gX, grX⟩ := store9 g0 (I 0) (.string ⟨#[]⟩) (.string ⟨#[]⟩) (I 0) (I 0) (I 0) (I 0) (I 0) (.slice none 0 0)
  have HB := hide ((hB1.trans (hBV.mono hB1.size)).trans (grX.below hB1.size (Nat.le_trans hB1.size (by omega))))
  clear hB1 hBV g0 hs HD gX grX
  go_wp2_with fail
  obtain ⟨i1, i2, i3⟩ := unhide HI _ (unhide HB)
  refine (text_k _ i1 i3 i2).mono ?_
  rintro e W2 ⟨rfl, hB2⟩
  have HB2 := hide ((unhide HB).trans (hB2.mono (unhide HB).size))
  clear hB2 HB i1 i2 i3
  go_wp2_with fail
  obtain ⟨i1, i2, i3⟩ := unhide HI _ (unhide HB2)
  refine (show_k1 _ i2).mono ?_
  rintro e W3 ⟨rfl, hB3⟩
  have HB3 := hide ((unhide HB2).trans (hB3.mono (unhide HB2).size))
  clear hB3 HB2 i1 i2 i3
  go_wp2_with fail
  obtain ⟨i1, i2, i3⟩ := unhide HI _ (unhide HB3)
  refine (show_k2 _ i2).mono ?_
  rintro e W4 ⟨rfl, hB4⟩
  have HB4 := hide ((unhide HB3).trans (hB4.mono (unhide HB3).size))
  clear hB4 HB3 i1 i2 i3
  go_wp2_with fail
  go_ret
  exact ⟨rfl, unhide HB4⟩
end Go.Proofs.YtnkkfomekdipiaaDoor.Cl
