/-
  NameNumbers: chapter 7's runs answer true.
-/
import Derived.Test.YtnhddendkolfeaaKnown
namespace Go.Proofs.Ytnhddendkolfeaa
open Go.RowKit
attribute [local go_sem ↓] Go.wp_at_zero Go.wp_at_succ

/-- So many letters. -/
def xs (n : Nat) : List UInt8 := List.replicate n 120
theorem xs_len (n : Nat) : (xs n).length = n := by simp [xs]
theorem xs_ne {n : Nat} (h : n ≠ 0) : xs n ≠ [] := by
  intro e
  have := xs_len n
  rw [e] at this
  simp at this; omega
theorem xs_mem {n : Nat} {c : UInt8} (h : c ≠ 120) : c ∉ xs n := by
  unfold xs
  intro e
  exact h (List.eq_of_mem_replicate e)
theorem xs_parts (n : Nat) (h : n ≠ 0) : parts (xs n) = [xs n] := by
  rw [parts_plain (xs_mem (by decide))]
  simp [piece, xs_ne h]
theorem xs_err {n : Nat} (h : n ≠ 0) : err (xs n) = if 4096 < n then 45 else if 255 < n then 45 else 0 := by
  unfold err
  rw [if_neg (xs_ne h), xs_len, if_neg (xs_mem (n := n) (c := 0) (by decide)), xs_parts n h]
  simp [xs_len]
theorem e256 : err (xs 256) = 45 := by rw [xs_err (by omega), if_neg (by omega), if_pos (by omega)]
theorem e255 : err (xs 255) = 0 := by rw [xs_err (by omega), if_neg (by omega), if_neg (by omega)]
theorem e4097 : err (xs 4097) = 45 := by rw [xs_err (by omega), if_pos (by omega)]
theorem e4098 : err ([0] ++ xs 4097) = 45 := by
  unfold err
  rw [if_neg (by simp), if_pos (by rw [List.length_append, xs_len]; simp)]
theorem r256 : right (xs 256) = false := by
  unfold right
  rw [xs_len]
  simp
theorem long_x (n : Nat) (hn : n ≤ 100000) (w : World) : Calls Try.prog 10 #[.int .i64 (n : Int)] w fun e w' => e = .returned (S (xs n)) ∧ Below w.heap.size w w' := long_any n hn w
theorem root_1 (w : World) : Calls Try.prog 9 #[.string ⟨#[47]⟩] w fun e w' => ∃ a cap, e = .returned (.tuple #[.agg #[.bool true, .bool true, .slice a 0 cap], .int .i64 0]) ∧ RowO w' a [] ∧ Below w.heap.size w w' := by
  have h := read_P [47] w
  have e1 : err [47] = 0 := by decide +kernel
  have e2 : rt [47] = true := by decide +kernel
  have e3 : sl [47] = true := by decide +kernel
  have e4 : ps [47] = [] := by decide +kernel
  rw [e1, e2, e3, e4] at h
  exact h
theorem cat_bs (a b : List UInt8) : bs a ++ bs b = bs (a ++ b) := by
  apply ByteArray.ext
  simp
set_option maxRecDepth 100000 in
set_option maxHeartbeats 4000000 in
theorem numbers_walk (w : World) : Calls Try.prog 3 #[] w fun e w' => e = .returned (.bool true) ∧ Below w.heap.size w w' := by
  go_enter Try.func3, Try.ntmps3
  go_wp2_with fail
  refine (root_1 _).mono ?_
  rintro e w1 ⟨a, cap, rfl, r1, B1⟩
  obtain ⟨w2, hw2, B2, P2⟩ := pbox (r := true) (s := true) (n := 0) (cap := cap) r1
  have Z := hide (Below.step B1 B2 (Nat.le_refl _))
  replace P2 := hide P2
  clear r1 B1 B2
  go_wp2_with fail
  refine (long_x 256 (by omega) _).mono ?_
  rintro e w3 ⟨rfl, B3⟩
  generalize w1.heap.size = b at *
  clear hw2
  replace P2 := hide ((unhide P2).below B3)
  replace Z := hide (Below.step (unhide Z) B3 (Nat.le_refl _))
  clear B3
  go_wp2_with fail
  refine (read_E e256 _).mono ?_
  rintro e w4 ⟨x1, x2, x3, x4, x5, rfl, B4⟩
  replace P2 := hide ((unhide P2).below B4)
  replace Z := hide (Below.step (unhide Z) B4 (Nat.le_refl _))
  clear B4
  obtain ⟨w5, hw5, B5, -⟩ := box (W := w4) (.cells #[.bool x1, .bool x2, .slice x3 x4 x5] 24)
  replace P2 := hide ((unhide P2).below B5)
  replace Z := hide (Below.step (unhide Z) B5 (Nat.le_refl _))
  clear B5
  go_wp2_with fail
  refine (long_x 255 (by omega) _).mono ?_
  rintro e w6 ⟨rfl, B6⟩
  replace P2 := hide ((unhide P2).below B6)
  replace Z := hide (Below.step (unhide Z) B6 (Nat.le_refl _))
  clear B6
  go_wp2_with fail
  refine (read_E e255 _).mono ?_
  rintro e w7 ⟨x1, x2, x3, x4, x5, rfl, B7⟩
  replace P2 := hide ((unhide P2).below B7)
  replace Z := hide (Below.step (unhide Z) B7 (Nat.le_refl _))
  clear B7
  obtain ⟨w8, hw8, B8, -⟩ := box (W := w7) (.cells #[.bool x1, .bool x2, .slice x3 x4 x5] 24)
  replace P2 := hide ((unhide P2).below B8)
  replace Z := hide (Below.step (unhide Z) B8 (Nat.le_refl _))
  clear B8
  go_wp2_with fail
  refine (long_x 4097 (by omega) _).mono ?_
  rintro e w9 ⟨rfl, B9⟩
  replace P2 := hide ((unhide P2).below B9)
  replace Z := hide (Below.step (unhide Z) B9 (Nat.le_refl _))
  clear B9
  go_wp2_with fail
  refine (read_E e4097 _).mono ?_
  rintro e w10 ⟨x1, x2, x3, x4, x5, rfl, B10⟩
  replace P2 := hide ((unhide P2).below B10)
  replace Z := hide (Below.step (unhide Z) B10 (Nat.le_refl _))
  clear B10
  obtain ⟨w11, hw11, B11, -⟩ := box (W := w10) (.cells #[.bool x1, .bool x2, .slice x3 x4 x5] 24)
  replace P2 := hide ((unhide P2).below B11)
  replace Z := hide (Below.step (unhide Z) B11 (Nat.le_refl _))
  clear B11
  go_wp2_with fail
  refine (read_E (l := [97, 0]) (x := 39) (by decide +kernel) _).mono ?_
  rintro e w12 ⟨x1, x2, x3, x4, x5, rfl, B12⟩
  replace P2 := hide ((unhide P2).below B12)
  replace Z := hide (Below.step (unhide Z) B12 (Nat.le_refl _))
  clear B12
  obtain ⟨w13, hw13, B13, -⟩ := box (W := w12) (.cells #[.bool x1, .bool x2, .slice x3 x4 x5] 24)
  replace P2 := hide ((unhide P2).below B13)
  replace Z := hide (Below.step (unhide Z) B13 (Nat.le_refl _))
  clear B13
  go_wp2_with fail
  refine (clean_E (l := [46, 47, 46]) (m := [46]) (x := 0) (by decide +kernel) (by decide +kernel) _).mono ?_
  rintro e w14 ⟨rfl, B14⟩
  replace P2 := hide ((unhide P2).below B14)
  replace Z := hide (Below.step (unhide Z) B14 (Nat.le_refl _))
  clear B14
  go_wp2_with fail
  refine (clean_E (l := [47, 46, 47]) (m := [47]) (x := 0) (by decide +kernel) (by decide +kernel) _).mono ?_
  rintro e w15 ⟨rfl, B15⟩
  replace P2 := hide ((unhide P2).below B15)
  replace Z := hide (Below.step (unhide Z) B15 (Nat.le_refl _))
  clear B15
  go_wp2_with fail
  refine (clean_E (l := [47, 46]) (m := [47]) (x := 0) (by decide +kernel) (by decide +kernel) _).mono ?_
  rintro e w16 ⟨rfl, B16⟩
  replace P2 := hide ((unhide P2).below B16)
  replace Z := hide (Below.step (unhide Z) B16 (Nat.le_refl _))
  clear B16
  go_wp2_with fail
  refine (long_x 4097 (by omega) _).mono ?_
  rintro e w17 ⟨rfl, B17⟩
  replace P2 := hide ((unhide P2).below B17)
  replace Z := hide (Below.step (unhide Z) B17 (Nat.le_refl _))
  clear B17
  go_wp2_with fail
  rw [show (⟨#[0]⟩ : ByteArray) ++ bs (xs 4097) = bs ([0] ++ xs 4097) from cat_bs [0] _]
  refine (read_E e4098 _).mono ?_
  rintro e w18 ⟨x1, x2, x3, x4, x5, rfl, B18⟩
  replace P2 := hide ((unhide P2).below B18)
  replace Z := hide (Below.step (unhide Z) B18 (Nat.le_refl _))
  clear B18
  obtain ⟨w19, hw19, B19, -⟩ := box (W := w18) (.cells #[.bool x1, .bool x2, .slice x3 x4 x5] 24)
  replace P2 := hide ((unhide P2).below B19)
  replace Z := hide (Below.step (unhide Z) B19 (Nat.le_refl _))
  clear B19
  obtain ⟨c0, c1, c2⟩ := (unhide P2).cells
  go_wp2_with fail
  refine (right_E (l := [46, 46]) (x := false) (by decide +kernel) _).mono ?_
  rintro e wx ⟨rfl, rfl⟩
  go_wp2_with fail
  refine (right_E (l := []) (x := false) (by decide +kernel) _).mono ?_
  rintro e wx ⟨rfl, rfl⟩
  go_wp2_with fail
  refine (right_E (l := [97, 47, 98]) (x := false) (by decide +kernel) _).mono ?_
  rintro e wx ⟨rfl, rfl⟩
  go_wp2_with fail
  refine (right_E (l := [46, 46, 46]) (x := true) (by decide +kernel) _).mono ?_
  rintro e wx ⟨rfl, rfl⟩
  go_wp2_with fail
  refine (long_x 256 (by omega) _).mono ?_
  rintro e w20 ⟨rfl, B20⟩
  replace P2 := hide ((unhide P2).below B20)
  replace Z := hide (Below.step (unhide Z) B20 (Nat.le_refl _))
  clear B20
  go_wp2_with fail
  refine (right_E r256 _).mono ?_
  rintro e wx ⟨rfl, rfl⟩
  go_wp2_with fail
  refine (dots_E (l := [46]) (x := true) (by decide +kernel) _).mono ?_
  rintro e wx ⟨rfl, rfl⟩
  go_wp2_with fail
  refine (dots_E (l := [46, 46, 46]) (x := false) (by decide +kernel) _).mono ?_
  rintro e wx ⟨rfl, rfl⟩
  go_wp2_with fail
  refine (known_any _).mono ?_
  rintro e wy ⟨rfl, BY⟩
  replace Z := hide (Below.step (unhide Z) BY (Nat.le_refl _))
  clear BY
  go_wp2_with fail
  go_ret
  exact ⟨rfl, unhide Z⟩
end Go.Proofs.Ytnhddendkolfeaa
