/-
  The document's book: the contracts of Same, Roomy, Intact.
-/
import Derived.Test.YtaogokgklkdmpaaRefC
namespace Go.Proofs.Ytaogokgklkdmpaa
open Go.RowKit Go.Maps

theorem In.at {W : World} {a : Option Addr} {n cap : Nat} {g : Nat → Int} (h : In W a n cap g) {j : Nat} (hj : j < n) : ∃ sb so, a = some ⟨sb, so, none⟩ ∧ W.cell? ⟨sb, so + j, none⟩ = some (U (g j)) := by
  obtain ⟨sb, so, h1, h2, _⟩ := h (by omega)
  exact ⟨sb, so, h1, h2 j hj⟩
set_option maxHeartbeats 1000000 in
theorem same_any {W : World} {a1 a2 : Option Addr} {n c1 c2 : Nat} {g : Nat → Int} (h1 : In W a1 n c1 g) (h2 : In W a2 n c2 g) (hn : n ≤ 100000) :
    Calls Try.prog 36 #[.slice a1 n c1, .slice a2 n c2] W fun e w' => e = .returned (.bool true) ∧ Below W.heap.size W w' := by
  have H1 := hide h1
  have H2 := hide h2
  clear h1 h2
  have n1 : (n : Int) ≤ 100000 := by omega
  go_enter Try.func36, Try.ntmps36
  go_wp2_with fail
  go_loopw [5] (fun i wr => ∃ j : Nat, j ≤ n ∧ i = I (j : Int) ∧ Hid (Below W.heap.size W wr)) (fun i _ => n - (intOf i).toNat)
  case atStart => exact ⟨0, by omega, rfl, hide (Below.refl _ _)⟩
  case round =>
    obtain ⟨j, hj, rfl, hB⟩ := hrel
    by_cases hjn : j < n
    · obtain ⟨sb, so, rfl, d1⟩ := ((unhide H1).below (unhide hB)).at hjn
      obtain ⟨tb, t0, rfl, d2⟩ := ((unhide H2).below (unhide hB)).at hjn
      have z1 : (j : Int) < (n : Int) := by omega
      have z0 : (0 : Int) ≤ (j : Int) := by omega
      obtain ⟨y, hy⟩ : ∃ y, y = g j := ⟨_, rfl⟩
      rw [← hy] at d1 d2
      clear hy
      go_wp2_with fail
      go_quiet (fail)
      go_wp2_with fail
      refine ⟨⟨j + 1, by omega, rfl, hide (below_dn (unhide hB) _)⟩, by simp [intOf]; omega⟩
    · obtain rfl : j = n := by omega
      have z1 : ¬ (j : Int) < (j : Int) := by omega
      go_wp2_with fail
      go_ret
      exact ⟨rfl, unhide hB⟩
/-- Bytes, and others behind them. -/
def rm (m k : Nat) (g : Nat → Int) : Nat → Int := fun i => if i < m then g i else if i < k then 165 else 0
theorem lst_set (f f' : Nat → Int) (z j : Nat) (y : Int) (h : ∀ i, i < z → f' i = if i = j then y else f i) : (lst f 0 z).toArray.setIfInBounds j (U y) = (lst f' 0 z).toArray := by
  apply Array.ext_getElem?
  intro i
  simp only [List.setIfInBounds_toArray, List.getElem?_toArray]
  rw [List.getElem?_set, lst_length, lst_get, lst_get, Nat.zero_add]
  by_cases e : j = i
  · subst e
    rw [if_pos rfl]
    by_cases h2 : j < z
    · rw [if_pos h2, if_pos h2, h j h2, if_pos rfl]
    · rw [if_neg h2, if_neg h2]
  · rw [if_neg e]
    by_cases h2 : i < z
    · rw [if_pos h2, if_pos h2, h i h2, if_neg (fun e2 => e e2.symm)]
    · rw [if_neg h2, if_neg h2]
set_option maxHeartbeats 1000000 in
theorem roomy_any {W : World} {ba : Option Addr} {m bc : Nat} {g : Nat → Int} (hi : In W ba m bc g) (hm : m ≤ 1100) (z : Nat) (hz : z = m + 80) :
    Calls Try.prog 22 #[.slice ba m bc, U 165] W fun e w' => e = .returned (.slice (some ⟨W.heap.size, 0, none⟩) z z) ∧ Hid (w'.heap[W.heap.size]? = some (.cells (lst (rm m z g) 0 z).toArray 5)) ∧ Hid (Below W.heap.size W w') := by
  have hmk := make_run z (by omega)
  rw [show (z : Int) = (m : Int) + 80 by omega] at hmk
  obtain ⟨w11, hw11⟩ : ∃ x, x = W.alloc (.cells (lst (fun _ => 0) 0 z).toArray 5) := ⟨_, rfl⟩
  have G11 : w11.heap[W.heap.size]? = some (.cells (lst (fun _ => 0) 0 z).toArray 5) := by rw [hw11]; exact heap_alloc_new _ _
  have K11 : Below W.heap.size W w11 := by rw [hw11]; exact (Below.refl _ W).alloc (Nat.le_refl _) _
  have hcp : ∃ w12, (∀ ty, (Builtin.copy_ #[28, 28] ty #[.slice (some ⟨W.heap.size, 0, none⟩) z z, .slice ba m bc]).run Try.prog w11 = .ok (I (m : Int)) w12) ∧ w12.heap[W.heap.size]? = some (.cells (lst (lay (fun _ => 0) 0 m g) 0 z).toArray 5) ∧ Below W.heap.size W w12 := by
    by_cases hk0 : m = 0
    · refine ⟨w11, fun ty => ?_, ?_, K11⟩
      · have := run_copy_none (P := Try.prog) w11 28 28 ty 5 (some ⟨W.heap.size, 0, none⟩) ba z z m bc Try.underlying28 size5 (by rw [hk0]; exact Nat.zero_min _)
        rw [this, hk0]
        rfl
      · rw [hk0, lay_zero]
        exact G11
    · obtain ⟨w12, h1, h2, h3, _⟩ := copy_in (m := z) (c := z) (r := 0) G11 (hi.below K11) (by omega) (by omega) (by omega)
      exact ⟨w12, h1, h2, K11.trans (h3.base K11.size (by simp))⟩
  obtain ⟨w12, hcp, G12, K12⟩ := hcp
  rw [hw11] at hcp
  have z1 : (z : Int) = (m : Int) + 80 := by omega
  have z2 : (z : Int) ≤ 1180 := by omega
  have m1 : (m : Int) ≤ 1100 := by omega
  replace hz := hide hz
  have Z1 := hide z1
  have HG := hide G12
  have HK := hide K12
  clear hw11 G11 K11 G12 K12 hi z1
  go_enter Try.func22, Try.ntmps22
  go_wp2_with fail
  go_loopw [6] (fun i wr => ∃ j : Nat, m ≤ j ∧ j ≤ z ∧ i = I (j : Int) ∧ Hid (wr.heap[W.heap.size]? = some (.cells (lst (rm m j g) 0 z).toArray 5)) ∧ Hid (Below W.heap.size W wr)) (fun i _ => z - (intOf i).toNat)
  case atStart =>
    refine ⟨m, by omega, by have := unhide hz; omega, rfl, hide ?_, HK⟩
    rw [unhide HG]
    congr 3
    refine lst_congr fun j hj => ?_
    simp only [lay, rm]
    by_cases h : j < m
    · rw [if_pos (by omega), if_pos (by omega)]
      congr 1
    · rw [if_neg (by omega), if_neg (by omega), if_neg (by omega)]
  case round =>
    obtain ⟨j, hj1, hj2, rfl, hG, hB⟩ := hrel
    by_cases hjz : j < z
    · have z3 : (j : Int) < (z : Int) := by omega
      have z0 : (0 : Int) ≤ (j : Int) := by omega
      have d0 : wr.cell? ⟨W.heap.size, j, none⟩ = some (U (rm m j g j)) := by
        have := Bs.of_row (unhide hG) j hjz
        rw [Nat.zero_add] at this
        simpa using this
      have df := frozen_of (unhide hG) j
      obtain ⟨y, hy⟩ : ∃ y, y = rm m j g j := ⟨_, rfl⟩
      rw [← hy] at d0
      clear hy
      go_wp2_with fail
      refine ⟨⟨j + 1, by omega, by omega, rfl, hide ?_, hide ((unhide hB).setCell (by simp) _)⟩, by simp [intOf]; omega⟩
      rw [heap_set (unhide hG), lst_set _ (rm m (j + 1) g) z j 165]
      intro i hi
      simp only [rm]
      by_cases h1 : i < m
      · rw [if_pos h1, if_neg (by omega), if_pos h1]
      · rw [if_neg h1, if_neg h1]
        by_cases h2 : i = j
        · rw [if_pos h2, if_pos (by omega)]
        · rw [if_neg h2]
          by_cases h3 : i < j
          · rw [if_pos h3, if_pos (by omega)]
          · rw [if_neg h3, if_neg (by omega)]
    · obtain rfl : j = z := by omega
      have z3 : ¬ (j : Int) < (j : Int) := by omega
      go_wp2_with fail
      go_ret
      exact ⟨rfl, hG, hB⟩
set_option maxHeartbeats 1000000 in
theorem intact_any {W : World} {b : Nat} {ba : Option Addr} {m bc z : Nat} {g : Nat → Int} (hb : W.heap[b]? = some (.cells (lst (rm m z g) 0 z).toArray 5)) (hi : In W ba m bc g) (hm : m ≤ 1100) (hz : z = m + 80) :
    Calls Try.prog 24 #[.slice (some ⟨b, 0, none⟩) z z, .slice ba m bc, U 165] W fun e w' => e = .returned (.bool true) ∧ Below W.heap.size W w' := by
  have e1 : ((z : Int) != (m : Int) + 80) = false := by simp; omega
  have z2 : (z : Int) ≤ 1180 := by omega
  have m1 : (m : Int) ≤ 1100 := by omega
  have m2 : (m : Int) ≤ (z : Int) := by omega
  have hin : In W (some ⟨b, 0, none⟩) m z g := fun _ => ⟨b, 0, rfl, fun j hj => by
    rw [Bs.of_row hb j (by omega)]
    simp [rm, hj], by omega⟩
  have HB := hide hb
  have HI := hide hi
  have HN := hide hin
  replace hz := hide hz
  clear hb hi hin
  go_enter Try.func24, Try.ntmps24
  go_wp2_with fail
  refine (same_any (unhide HN) (unhide HI) (by omega)).mono ?_
  rintro e w1 ⟨rfl, K1⟩
  replace K1 := hide K1
  go_wp2_with fail
  go_loopw [7] (fun i wr => ∃ j : Nat, m ≤ j ∧ j ≤ z ∧ i = I (j : Int) ∧ wr = w1) (fun i _ => z - (intOf i).toNat)
  case atStart => exact ⟨m, by omega, by omega, rfl, rfl⟩
  case round =>
    obtain ⟨j, hj1, hj2, rfl, rfl⟩ := hrel
    by_cases hjz : j < z
    · have z3 : (j : Int) < (z : Int) := by omega
      have z0 : (0 : Int) ≤ (j : Int) := by omega
      have hb2 := ((unhide K1).block b (lt_of_heap (unhide HB))).trans (unhide HB)
      have d0 : wr.cell? ⟨b, j, none⟩ = some (U 165) := by
        have := Bs.of_row hb2 j hjz
        rw [Nat.zero_add] at this
        simp only [rm] at this
        rw [if_neg (by omega), if_pos (by omega)] at this
        exact this
      clear hb2
      go_wp2_with fail
      refine ⟨⟨j + 1, by omega, by omega, rfl, trivial⟩, by simp [intOf]; omega⟩
    · obtain rfl : j = z := by omega
      have z3 : ¬ (j : Int) < (j : Int) := by omega
      go_wp2_with fail
      go_ret
      exact ⟨rfl, unhide K1⟩
end Go.Proofs.Ytaogokgklkdmpaa
