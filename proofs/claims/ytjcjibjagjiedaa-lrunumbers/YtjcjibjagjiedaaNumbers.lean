/-
  LruNumbers: the walk.
-/
import Derived.Test.YtjcjibjagjiedaaAny
namespace Go.Proofs.Ytjcjibjagjiedaa
open Go.RowKit
attribute [local go_sem ↓] Go.wp_at_zero Go.wp_at_succ

abbrev kZ : ByteArray := ⟨#[122]⟩
theorem n1 : pinM [(kA, 0)] kA = [(kA, 1)] := by kernel_rfl
theorem n1h : has [(kA, 0)] kA = true := by kernel_rfl
theorem n2 : pinM [(kA, 1)] kZ = [(kA, 1)] := by kernel_rfl
theorem n2h : has [(kA, 1)] kZ = false := by kernel_rfl
theorem n3 : useS 2 [(kA, 1)] kB = (⟨#[]⟩, false, [(kA, 1), (kB, 0)]) := by kernel_rfl
theorem n4 : pinM [(kA, 1), (kB, 0)] kB = [(kA, 1), (kB, 1)] := by kernel_rfl
theorem n4h : has [(kA, 1), (kB, 0)] kB = true := by kernel_rfl
theorem n5 : useS 2 [(kA, 1), (kB, 1)] kC = (⟨#[]⟩, false, [(kA, 1), (kB, 1), (kC, 0)]) := by kernel_rfl
theorem n6 : shr 9 [(kA, 1), (kB, 1), (kC, 0)] = ([kC], [(kA, 1), (kB, 1)]) := by kernel_rfl
theorem n7 : unpinM [(kA, 1), (kB, 1)] kA = [(kA, 0), (kB, 1)] := by kernel_rfl
theorem n7h : (has [(kA, 1), (kB, 1)] kA && decide (0 < pins [(kA, 1), (kB, 1)] kA)) = true := by kernel_rfl
theorem n8 : unpinM [(kA, 0), (kB, 1)] kA = [(kA, 0), (kB, 1)] := by kernel_rfl
theorem n8h : (has [(kA, 0), (kB, 1)] kA && decide (0 < pins [(kA, 0), (kB, 1)] kA)) = false := by kernel_rfl
theorem n9 : olds [(kA, 0), (kB, 1)] (-1) = [] := by kernel_rfl
theorem n10 : olds [(kA, 0), (kB, 1)] 9 = [kA, kB] := by kernel_rfl
theorem n11 : dropM [(kA, 0), (kB, 1)] kB = [(kA, 0)] := by kernel_rfl
theorem n11h : has [(kA, 0), (kB, 1)] kB = true := by kernel_rfl
theorem n12h : has [(kA, 0)] kB = false := by kernel_rfl
theorem row_new (w : World) (l : List ByteArray) (t : TypeId) : RowO (w.alloc (.cells (strs l).toArray t)) (some ⟨w.heap.size, 0, none⟩) l := fun k s hk => by
  have h1 := putAll (w := w) (.cells (strs l).toArray t) w.heap.size rfl
  exact ⟨_, 0, rfl, lt_of_heap h1, by rw [cell_of h1]; simp [strs, hk]⟩
set_option maxRecDepth 100000 in
set_option maxHeartbeats 2000000 in
theorem numbers_walk (w : World) : Calls Try.prog 3 #[] w fun e w' => e = .returned (.bool true) ∧ Below w.heap.size w w' := by
  have F3 : ∀ es : Ents, es.length ≤ 3 → (∀ p ∈ es, 0 ≤ p.2 ∧ p.2 ≤ 1000) → Fit 1000 es := fun es h1 h2 => ⟨by omega, h2⟩
  replace F3 := hide F3
  have K1 := hide (new_bad 0 (by omega) w)
  have K2 := hide (new_bad 65 (by omega) w)
  have K3 := hide (new_T 2 (by omega) (by omega) w)
  go_enter Try.func3, Try.ntmps3
  go_wp2_with fail
  refine (unhide K1).mono ?_
  rintro e w1 ⟨rfl, rfl⟩
  go_wp2_with fail
  refine (unhide K2).mono ?_
  rintro e w2 ⟨rfl, rfl⟩
  go_wp2_with fail
  refine (unhide K3).mono ?_
  rintro e w3 ⟨b, rfl, T⟩
  clear K1 K2 K3
  have K := hide (use_T ⟨#[97]⟩ T (by simp))
  rw [u1 2 (by omega)] at K
  clear T
  go_wp2_with fail
  refine (unhide K).mono ?_
  rintro e w4 ⟨rfl, T, -⟩
  clear K
  have K := hide (pin_T ⟨#[97]⟩ T (unhide F3 _ (by simp) (by simp)))
  rw [n1, n1h] at K
  clear T
  go_wp2_with fail
  refine (unhide K).mono ?_
  rintro e w5 ⟨rfl, T, -⟩
  clear K
  have K := hide (pin_T ⟨#[122]⟩ T (unhide F3 _ (by simp) (by simp)))
  rw [n2, n2h] at K
  clear T
  go_wp2_with fail
  refine (unhide K).mono ?_
  rintro e w6 ⟨rfl, T, -⟩
  clear K
  have K := hide (use_T ⟨#[98]⟩ T (by simp))
  rw [n3] at K
  clear T
  go_wp2_with fail
  refine (unhide K).mono ?_
  rintro e w7 ⟨rfl, T, -⟩
  clear K
  have K := hide (pin_T ⟨#[98]⟩ T (unhide F3 _ (by simp) (by simp)))
  rw [n4, n4h] at K
  clear T
  go_wp2_with fail
  refine (unhide K).mono ?_
  rintro e w8 ⟨rfl, T, -⟩
  clear K
  have K := hide (use_T ⟨#[99]⟩ T (by simp))
  rw [n5] at K
  clear T
  go_wp2_with fail
  refine (unhide K).mono ?_
  rintro e w9 ⟨rfl, T, -⟩
  clear K
  have K := hide (len_T T)
  replace T := hide T
  go_wp2_with fail
  refine (unhide K).mono ?_
  rintro e w10 ⟨rfl, rfl⟩
  clear K
  replace T := unhide T
  have K := hide (shrink_T 9 T (by simp))
  rw [n6] at K
  clear T
  go_wp2_with fail
  refine (unhide K).mono ?_
  rintro e w11 ⟨a1, c1, rfl, own, T, -⟩
  clear K
  replace own := hide own
  have TT := hide T
  have K := hide (unpin_T ⟨#[97]⟩ T (unhide F3 _ (by simp) (by simp)))
  rw [n7, n7h] at K
  clear T
  go_wp2_with fail
  refine (unhide K).mono ?_
  rintro e w12 ⟨rfl, T, F⟩
  clear K
  replace own := hide (own_fr F (unhide TT) (by decide) (by decide) (unhide own))
  clear F TT
  have TT := hide T
  have K := hide (unpin_T ⟨#[97]⟩ T (unhide F3 _ (by simp) (by simp)))
  rw [n8, n8h] at K
  clear T
  go_wp2_with fail
  refine (unhide K).mono ?_
  rintro e w13 ⟨rfl, T, F⟩
  clear K
  replace own := hide (own_fr F (unhide TT) (by decide) (by decide) (unhide own))
  clear F TT
  have K := hide (oldest_T (-1) T (by simp))
  rw [n9] at K
  clear T
  go_wp2_with fail
  refine (unhide K).mono ?_
  rintro e w14 ⟨a2, c2, rfl, -, T, B⟩
  clear K
  replace own := hide (own_keep (unhide own) fun k _ hc => B.block k (lt_of_heap hc))
  clear B
  have K := hide (oldest_T 9 T (by simp))
  rw [n10] at K
  clear T
  go_wp2_with fail
  refine (unhide K).mono ?_
  rintro e w15 ⟨a3, c3, rfl, own3, T, B⟩
  clear K
  replace own := hide (own_keep (unhide own) fun k _ hc => B.block k (lt_of_heap hc))
  clear B
  replace own3 := hide own3
  have hle := T.le
  have K := hide (same_yes a1 (some ⟨w15.heap.size, 0, none⟩) c1 1 1 [kC] rfl (by omega) (w15.alloc (.cells (strs [kC]).toArray 9)) ((RowO.of_own (unhide own)).below ((Below.refl _ _).alloc (Nat.le_refl _) _)) (row_new w15 [kC] 9))
  have T5 := hide (T.below ((Below.refl _ _).alloc (Nat.le_refl _) (.cells (strs [kC]).toArray 9)))
  have own5 := hide (own_keep (W' := w15.alloc (.cells (strs [kC]).toArray 9)) (unhide own3) fun k _ hc => Below.heap_alloc _ _ _ (lt_of_heap hc))
  clear T own own3
  go_wp2_with fail
  refine (unhide K).mono ?_
  rintro e w16 ⟨rfl, B⟩
  have T6 := hide ((unhide T5).below B)
  have own6 := hide (own_keep (unhide own5) fun k _ hc => B.block k (lt_of_heap hc))
  clear K B T5 own5
  have K := hide (same_yes a3 (some ⟨w16.heap.size, 0, none⟩) c3 2 2 [kA, kB] rfl (by omega) (w16.alloc (.cells (strs [kA, kB]).toArray 9)) ((RowO.of_own (unhide own6)).below ((Below.refl _ _).alloc (Nat.le_refl _) _)) (row_new w16 [kA, kB] 9))
  have T7 := hide ((unhide T6).below ((Below.refl _ _).alloc (Nat.le_refl _) (.cells (strs [kA, kB]).toArray 9)))
  clear T6 own6
  go_wp2_with fail
  refine (unhide K).mono ?_
  rintro e w17 ⟨rfl, B⟩
  have T := (unhide T7).below B
  clear K B T7
  have K := hide (drop_T ⟨#[98]⟩ T (by simp))
  rw [n11, n11h] at K
  clear T
  go_wp2_with fail
  refine (unhide K).mono ?_
  rintro e w18 ⟨rfl, T, -⟩
  clear K
  have K := hide (drop_T ⟨#[98]⟩ T (by simp))
  rw [n12h] at K
  clear T
  go_wp2_with fail
  refine (unhide K).mono ?_
  rintro e w19 ⟨rfl, T, -⟩
  clear K
  have K := hide (known_any w19)
  replace T := hide T
  go_wp2_with fail
  refine (unhide K).mono ?_
  rintro e w20 ⟨rfl, B⟩
  replace B := hide B
  go_wp2_with fail
  go_ret
  exact ⟨rfl, ((unhide T).below (unhide B)).be⟩
end Go.Proofs.Ytjcjibjagjiedaa
