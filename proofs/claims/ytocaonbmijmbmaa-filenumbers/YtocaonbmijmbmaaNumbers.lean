/-
  FileNumbers' walk: the chapter's runs.
-/
import Derived.Test.YtocaonbmijmbmaaKnown
namespace Go.Proofs.Ytocaonbmijmbmaa
open Go.RowKit Go.Shelf
attribute [local go_sem ↓] Go.wp_at_zero Go.wp_at_succ

/-- The files of process 3, the first k of its descriptors. -/
def three (k : Nat) : List Op := (List.range k).map fun (j : Nat) => ⟨3, j, 0, 0, 1, 0⟩
theorem three_room (k : Nat) (h : k < 8) : openA (three k) 64 3 = k ∧ roomE (three k) 64 3 = 0 ∧ openL (three k) 64 3 0 0 1 = three (k + 1) := by
  have : ∀ k : Fin 8, openA (three k.1) 64 3 = (k.1 : Int) ∧ roomE (three k.1) 64 3 = 0 ∧ openL (three k.1) 64 3 0 0 1 = three (k.1 + 1) := by decide +kernel
  exact this ⟨k, h⟩

set_option maxRecDepth 100000 in
set_option maxHeartbeats 1000000 in
theorem numbers_walk (w : World) : Calls Try.prog 3 #[] w fun e w' => e = .returned (.bool true) ∧ Below w.heap.size w w' := by
  have HK := hide (fun W => known_true W)
  go_enter Try.func3, Try.ntmps3
  go_wp2_with fail
  refine (new_bad 0 (by omega) w).mono ?_
  rintro e w' ⟨rfl, hw'⟩
  rw [hw']
  clear hw' w'
  go_wp2_with fail
  refine (new_bad 65 (by omega) w).mono ?_
  rintro e w' ⟨rfl, hw'⟩
  rw [hw']
  clear hw' w'
  go_wp2_with fail
  refine (new_good 1 (by omega) (by omega) w).mono ?_
  rintro e w0 ⟨rfl, hT0, hB⟩
  have hb : w.heap.size ≤ w.heap.size := Nat.le_refl _
  generalize hbb : w.heap.size = b at *
  have hs0 := hB.size
  rw [hbb] at hs0
  go_wp2_with fail
  refine (open_k (p := 0) (m := 2) (k := 0) (f := 1) hT0 (A := 0) (E := 0) (L := [⟨0, 0, 2, 0, 1, 0⟩]) (by decide +kernel) (by decide +kernel) (by decide +kernel)).mono ?_
  rintro e w1 ⟨rfl, hT1, hF1⟩
  replace hB := hB.trans (hF1.below hb hs0)
  have hs1 : b ≤ w1.heap.size := Nat.le_trans hs0 hF1.size
  clear hs0 hT0 hF1
  go_wp2_with fail
  refine (open_k (p := 1) (m := 0) (k := 0) (f := 1) hT1 (A := 0) (E := 40) (L := [⟨0, 0, 2, 0, 1, 0⟩]) (by decide +kernel) (by decide +kernel) (by decide +kernel)).mono ?_
  rintro e w2 ⟨rfl, hT2, hF2⟩
  replace hB := hB.trans (hF2.below hb hs1)
  have hs2 : b ≤ w2.heap.size := Nat.le_trans hs1 hF2.size
  clear hs1 hT1 hF2
  go_wp2_with fail
  refine (open_k (p := 8) (m := 0) (k := 0) (f := 1) hT2 (A := 0) (E := 1) (L := [⟨0, 0, 2, 0, 1, 0⟩]) (by decide +kernel) (by decide +kernel) (by decide +kernel)).mono ?_
  rintro e w3 ⟨rfl, hT3, hF3⟩
  replace hB := hB.trans (hF3.below hb hs2)
  have hs3 : b ≤ w3.heap.size := Nat.le_trans hs2 hF3.size
  clear hs2 hT2 hF3
  go_wp2_with fail
  refine (close_k (p := 1) (d := 0) hT3 (m := 0) (k := 0) (E := 33) (L := [⟨0, 0, 2, 0, 1, 0⟩]) (by decide +kernel) (by decide +kernel) (by decide +kernel) (by decide +kernel)).mono ?_
  rintro e w4 ⟨rfl, hT4, hF4⟩
  replace hB := hB.trans (hF4.below hb hs3)
  have hs4 : b ≤ w4.heap.size := Nat.le_trans hs3 hF4.size
  clear hs3 hT3 hF4
  go_wp2_with fail
  obtain ⟨w5, h5, g5, hB5, hz5⟩ := fresh2 w4 29
  rw [h5]
  have hT5 := hT4.below hB5
  replace hB := hB.trans (hB5.mono hs4)
  have hs5 : b ≤ w5.heap.size := Nat.le_trans hs4 hB5.size
  clear h5 hs4 hT4 hB5 g5 hz5
  refine (seek_k (p := 0) (d := 0) (s := -1) hT5 (E := 39) (L := [⟨0, 0, 2, 0, 1, 0⟩]) (by decide +kernel) (by decide +kernel)).mono ?_
  rintro e w6 ⟨rfl, hT6, hF6⟩
  replace hB := hB.trans (hF6.below hb hs5)
  have hs6 : b ≤ w6.heap.size := Nat.le_trans hs5 hF6.size
  clear hs5 hT5 hF6
  go_wp2_with fail
  refine (seek_k (p := 0) (d := 0) (s := 7) hT6 (E := 0) (L := [⟨0, 0, 2, 0, 1, 7⟩]) (by decide +kernel) (by decide +kernel)).mono ?_
  rintro e w7 ⟨rfl, hT7, hF7⟩
  replace hB := hB.trans (hF7.below hb hs6)
  have hs7 : b ≤ w7.heap.size := Nat.le_trans hs6 hF7.size
  clear hs6 hT6 hF7
  go_wp2_with fail
  refine (get_k (p := 0) (d := 0) hT7 (m := 2) (k := 0) (f := 1) (s := 7) (E := 0) (by decide +kernel) (by decide +kernel) (by decide +kernel) (by decide +kernel) (by decide +kernel)).mono ?_
  rintro e w8 ⟨rfl, hB8⟩
  have hT8 := hT7.below hB8
  replace hB := hB.trans (hB8.mono hs7)
  have hs8 : b ≤ w8.heap.size := Nat.le_trans hs7 hB8.size
  clear hs7 hT7 hB8
  obtain ⟨w9, h9, g9, hB9, hz9⟩ := var4 w8 2 0 1 7 34
  go_wp2_with fail
  have hT9 := hT8.below hB9
  replace hB := hB.trans (hB9.mono hs8)
  have hs9 : b ≤ w9.heap.size := Nat.le_trans hs8 hB9.size
  have hx8 : w8.heap.size ≠ b := by have := hT8.lt; omega
  clear hT8 hB9 h9
  generalize w8.heap.size = x at *
  refine (new_good 64 (by omega) (by omega) w9).mono ?_
  rintro e w10 ⟨rfl, hU0, hB10⟩
  have hT10 := hT9.below hB10
  have g10 := (hB10.block x (lt_of_heap g9)).trans g9
  have hub : b < w9.heap.size := hT9.lt
  have hux : x < w9.heap.size := lt_of_heap g9
  replace hB := hB.trans (hB10.mono hs9)
  have hs10 : w9.heap.size ≤ w10.heap.size := hB10.size
  clear hT9 g9 hB10 hz9
  generalize w9.heap.size = u at *
  have HS : Hid (Tb w10 b 1 [⟨0, 0, 2, 0, 1, 7⟩] ∧ w10.heap[x]? = some (.cells #[I 2, I 0, I 1, I 7] 34) ∧ Tb w10 u 64 (three 0) ∧ Below b w w10) := ⟨hT10, g10, hU0, hB⟩
  clear hT10 g10 hU0 hB
  go_wp2_with fail
  go_loopw [19] (fun i wr => ∃ k : Nat, i = I k ∧ k ≤ 8 ∧ Tb wr b 1 [⟨0, 0, 2, 0, 1, 7⟩] ∧ wr.heap[x]? = some (.cells #[I 2, I 0, I 1, I 7] 34) ∧ Tb wr u 64 (three k) ∧ Below b w wr) (fun i _ => 8 - (intOf i).toNat)
  case atStart => exact ⟨0, rfl, by omega, (unhide HS).1, (unhide HS).2.1, (unhide HS).2.2.1, (unhide HS).2.2.2⟩
  case round =>
    obtain ⟨k, rfl, hk, hT, g, hU, hB⟩ := hrel
    by_cases hk8 : k < 8
    · have j1 : (k : Int) < 8 := by omega
      obtain ⟨t1, t2, t3⟩ := three_room k hk8
      have HO := hide (open_k (p := 3) (m := 0) (k := 0) (f := 1) hU t1 t2 t3)
      have HG : Hid (∀ w', Fr u wr w' → Tb w' b 1 [⟨0, 0, 2, 0, 1, 7⟩] ∧ w'.heap[x]? = some (.cells #[I 2, I 0, I 1, I 7] 34) ∧ Below b w w') := fun w' hF =>
        ⟨hT.fr hF (by omega), (hF.block x (lt_of_heap g) (by omega)).trans g, hB.trans (hF.below (by omega) (by have := hT.lt; omega))⟩
      clear t1 t2 t3 hT g hU hB HS
      go_wp2_with fail
      refine (unhide HO).mono ?_
      rintro e w' ⟨rfl, hU', hF⟩
      obtain ⟨hT', g', hB'⟩ := unhide HG w' hF
      have HE : Hid (Tb w' b 1 [⟨0, 0, 2, 0, 1, 7⟩] ∧ w'.heap[x]? = some (.cells #[I 2, I 0, I 1, I 7] 34) ∧ Tb w' u 64 (three (k + 1)) ∧ Below b w w') := ⟨hT', g', hU', hB'⟩
      clear hT' g' hU' hB' hF HO HG
      go_wp2_with fail
      go_roundw
      case rel => exact ⟨k + 1, by go_num, by omega, (unhide HE).1, (unhide HE).2.1, (unhide HE).2.2.1, (unhide HE).2.2.2⟩
      case measure => simp [intOf]; omega
    · obtain rfl : k = 8 := by omega
      have HO := hide (open_k (p := 3) (m := 0) (k := 0) (f := 1) hU (A := 0) (E := 41) (L := three 8) (by decide +kernel) (by decide +kernel) (by decide +kernel))
      have HG : Hid (∀ w', Fr u wr w' → Tb w' b 1 [⟨0, 0, 2, 0, 1, 7⟩] ∧ w'.heap[x]? = some (.cells #[I 2, I 0, I 1, I 7] 34) ∧ Below b w w') := fun w' hF =>
        ⟨hT.fr hF (by omega), (hF.block x (lt_of_heap g) (by omega)).trans g, hB.trans (hF.below (by omega) (by have := hT.lt; omega))⟩
      clear hT g hU hB HS
      go_wp2_with fail
      refine (unhide HO).mono ?_
      rintro e v0 ⟨rfl, -, hF⟩
      obtain ⟨hT', g', hB'⟩ := unhide HG v0 hF
      obtain ⟨y0, y1, y2, y3⟩ := cells4 g'
      have hsv : b ≤ v0.heap.size := by have := hT'.lt; omega
      clear HO HG hF g'
      go_wp2_with fail
      refine (count_any b 1 1 _ v0 hT' rfl).mono ?_
      rintro e v1 ⟨rfl, hv⟩
      rw [hv]
      clear hv v1
      go_wp2_with fail
      refine (in_k (m := 2) hT' (c := 1) (by decide +kernel)).mono ?_
      rintro e v1 ⟨rfl, hB1⟩
      have hT1 := hT'.below hB1
      replace hB' := hB'.trans (hB1.mono hsv)
      have hsv1 : b ≤ v1.heap.size := Nat.le_trans hsv hB1.size
      clear hT' hB1 y0 y1 y2 y3
      go_wp2_with fail
      refine (in_k (m := 0) hT1 (c := 0) (by decide +kernel)).mono ?_
      rintro e v2 ⟨rfl, hB2⟩
      replace hB' := hB'.trans (hB2.mono hsv1)
      have hsv2 : b ≤ v2.heap.size := Nat.le_trans hsv1 hB2.size
      clear hT1 hB2
      go_wp2_with fail
      refine (unhide HK v2).mono ?_
      rintro e v3 ⟨rfl, hB3⟩
      replace hB' := hB'.trans (hB3.mono hsv2)
      have HE := hide hB'
      clear hB' hB3
      go_wp2_with fail
      go_ret
      exact ⟨rfl, by rw [hbb]; exact unhide HE⟩
end Go.Proofs.Ytocaonbmijmbmaa
