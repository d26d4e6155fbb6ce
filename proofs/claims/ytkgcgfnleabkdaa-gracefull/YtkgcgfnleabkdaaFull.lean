/-
  GraceFull answers true: as many as may be wait, one more is refused; when some are told there is room again. It holds for all numbers.
-/
import Derived.Test.YtkgcgfnleabkdaaKeep
import Derived.ProofKit
import Derived.OpenShut
import Derived.ShutString
import Derived.ChangeOld
import Derived.Below
namespace Go.Proofs.Ytkgcgfnleabkdaa.graceFull
open Go.ChangeShapes Go.WideShapes Go.ChangeAt Go.RowKit
open Go.ChangeMaps (open_string shut_string)
set_option linter.unusedVariables false
attribute [local go_sem ↓] Go.wp_at_zero Go.wp_at_succ

theorem own : ownKnob Try.prog.godebug = none := by kernel_rfl
theorem laidOut : laidOutB Try.prog = true := by kernel_rfl

/-- So many wait, numbered from nought on, all for the same readers. -/
def wsOf (F : Nat → Bool) (m : Nat) : List Wt := (List.range m).map fun i : Nat => ⟨(i : Int), F⟩
def nos (m : Nat) : List Int := (List.range m).map fun i : Nat => (i : Int)
theorem wsOf_len (F : Nat → Bool) (m : Nat) : (wsOf F m).length = m := by simp [wsOf]
theorem wsOf_succ (F : Nat → Bool) (m : Nat) : wsOf F m ++ [⟨(m : Int), F⟩] = wsOf F (m + 1) := by simp [wsOf, List.range_succ]
theorem wsOf_clr (F : Nat → Bool) (m k : Nat) : (wsOf F m).map (clr k) = wsOf (put F k false) m := by simp [wsOf, clr, Function.comp_def]
theorem free_all {F : Nat → Bool} (h : none8 F = true) (m : Nat) : free (wsOf F m) = wsOf F m := by
  unfold free
  rw [List.filter_eq_self]
  intro x hx
  simp only [wsOf, List.mem_map] at hx
  obtain ⟨i, _, rfl⟩ := hx
  exact h
theorem held_none {F : Nat → Bool} (h : none8 F = true) (m : Nat) : held (wsOf F m) = [] := by
  unfold held
  rw [List.filter_eq_nil_iff]
  intro x hx
  simp only [wsOf, List.mem_map] at hx
  obtain ⟨i, _, rfl⟩ := hx
  simp [h]
theorem free_none {F : Nat → Bool} (h : none8 F = false) (m : Nat) : free (wsOf F m) = [] := by
  unfold free
  rw [List.filter_eq_nil_iff]
  intro x hx
  simp only [wsOf, List.mem_map] at hx
  obtain ⟨i, _, rfl⟩ := hx
  simp [h]
theorem held_all {F : Nat → Bool} (h : none8 F = false) (m : Nat) : held (wsOf F m) = wsOf F m := by
  unfold held
  rw [List.filter_eq_self]
  intro x hx
  simp only [wsOf, List.mem_map] at hx
  obtain ⟨i, _, rfl⟩ := hx
  simp [h]
theorem ids_all (F : Nat → Bool) (m : Nat) : idsOf (wsOf F m) = nos m := by simp [idsOf, wsOf, nos, Function.comp_def]
theorem nos_len (m : Nat) : (nos m).length = m := by simp [nos]
theorem nos_ne {m j : Nat} (h : j < m) : nos m ≠ [] := by intro e; have := nos_len m; rw [e] at this; simp at this; omega
theorem nos_get (m j : Nat) (h : j < m) : (nos m)[j]? = some (j : Int) := by simp [nos, h]

set_option maxRecDepth 100000 in
set_option maxHeartbeats 1000000 in
theorem walk_t (a0 : Int) (w : World) :
    Calls Try.prog 7 #[.int .i64 a0, .bool true] w fun e w' => e = .returned (.bool true) ∧ Below w.heap.size w w' := by
  go_enter Try.func7, Try.ntmps7
  go_wp2_with fail
  refine (new_good 1 (by omega) (by omega) w).mono ?_
  rintro e w1 ⟨rfl, G1, hB1⟩
  generalize hh : w.heap.size = h at *
  have HH := hide hh
  clear hh
  replace G1 : Gr h w1 (h + 1) h 1 [0] [] := G1
  go_wp2_with fail
  refine (within_any a0 24 w1 (by omega) (by omega)).mono ?_
  rintro e w1' ⟨⟨n, hn, rfl⟩, rfl⟩
  have q0 : (0 : Int) ≤ (n : Int) := by omega
  go_wp2_with fail
  refine (enter_yes h (h + 1) h 1 0 0 _ _ w1' G1 rfl (by omega) (by omega)).mono ?_
  rintro e w2 ⟨rfl, G2, F2⟩
  replace G1 : Gr h w2 (h + 1) h 1 [1] [] := G2.to rfl rfl
  replace hB1 := hB1.trans F2.below
  clear G2 F2
  have HB1 := hide hB1
  have HG1 := hide G1
  have z8 : none8 (ins [1]) = false := by decide
  clear G1 hB1
  generalize hF : ins [1] = F at z8
  have HF0 := hide hF
  clear hF
  go_wp2_with fail
  go_loopw [7, 8, 9] (fun i _ _ wr => ∃ k : Nat, k ≤ n ∧ i = .int .i64 k ∧ Gr h wr (h + 1) h 1 [1] (wsOf F (min k 16)) ∧ Below h w wr) (fun i _ _ _ => n - (intOf i).toNat)
  case atStart => exact ⟨0, Nat.zero_le _, rfl, unhide HG1, unhide HB1⟩
  case round =>
    obtain ⟨k, hk, rfl, G, B⟩ := hrel
    clear HG1 HB1
    by_cases hkn : k < n
    · have j1 : (k : Int) < (n : Int) := by omega
      have j24 : (k : Int) ≤ 24 := by omega
      have j0 : (0 : Int) ≤ (k : Int) := by omega
      by_cases hk16 : k < 16
      · have j16 : (k : Int) < 16 := by omega
        rw [Nat.min_eq_left (by omega)] at G
        have HD := hide (defer_ok h (h + 1) h 1 (k : Int) _ _ wr G (by rw [wsOf_len]; exact hk16))
        have HB := hide B
        clear G B
        go_wp2_with fail
        refine (unhide HD).mono ?_
        rintro e w2 ⟨rfl, G2, F2⟩
        rw [unhide HF0, wsOf_succ] at G2
        rw [unhide HF0, z8]
        have HG2 := hide G2
        have HB2 := hide ((unhide HB).trans F2.below)
        clear G2 F2 HB HD
        go_wp2_with fail
        go_roundw
        case rel => exact ⟨k + 1, by omega, by go_num, by rw [Nat.min_eq_left (by omega)]; exact unhide HG2, unhide HB2⟩
        case measure => simp [intOf]; omega
      · have j16 : ¬ (k : Int) < 16 := by omega
        rw [Nat.min_eq_right (by omega)] at G
        have HD := hide (defer_full h (h + 1) h 1 (k : Int) _ _ wr G (by rw [wsOf_len]; omega))
        have HB := hide B
        have HG := hide G
        clear G B
        go_wp2_with fail
        refine (unhide HD).mono ?_
        rintro e w2 ⟨rfl, rfl⟩
        go_wp2_with fail
        go_roundw
        case rel => exact ⟨k + 1, by omega, by go_num, by rw [Nat.min_eq_right (by omega)]; exact unhide HG, unhide HB⟩
        case measure => simp [intOf]; omega
    · obtain rfl : k = n := by omega
      obtain ⟨m, hm⟩ : ∃ m, min k 16 = m := ⟨_, rfl⟩
      rw [hm] at G
      have hm16 : m ≤ 16 := by omega
      have HG := hide G
      have HB := hide B
      clear G B
      have hcut : (16 : Int) < (k : Int) ∧ m = 16 ∨ ¬ (16 : Int) < (k : Int) ∧ k = m := by omega
      clear hm
      rcases hcut with ⟨hc, rfl⟩ | ⟨hc, rfl⟩
      · have hq : ((16 : Nat) : Int) = 16 := rfl
        go_wp2_with fail
        refine (waits_all h (h + 1) h 1 _ _ wr (unhide HG) (by rw [wsOf_len]; exact hm16)).mono ?_
        rintro e w3 ⟨v3, rfl, o3, B3⟩
        rw [wsOf_len] at o3
        obtain ⟨a3, c3, rfl⟩ := own_form o3
        have G3 := (unhide HG).below B3
        have hb3 := G3.base_le
        have HB3 := hide ((unhide HB).trans (B3.mono (unhide HG).base_le))
        clear B3 o3 HG HB
        go_wp2_with fail
        refine (poll_all h (h + 1) h 1 _ _ w3 G3 (by rw [wsOf_len]; exact hm16)).mono ?_
        rintro e w4 ⟨v4, rfl, o4, G4, F4⟩
        rw [free_none z8] at o4
        replace o4 : w4.ownsRow w3.heap.size 2 1 v4 0 [] := o4
        obtain ⟨a4, c4, rfl⟩ := own_form o4
        rw [held_all z8] at G4
        have HB4 := hide ((unhide HB3).trans F4.below)
        clear G3 o4 F4 HB3
        go_wp2_with fail
        refine (leave_out h (h + 1) h 1 0 _ _ w4 G4 (by rw [wsOf_len]; exact hm16) rfl).mono ?_
        rintro e w5 ⟨rfl, GP, F5⟩
        rw [wsOf_clr] at GP
        replace GP : Gr h w5 (h + 1) h 1 [0] (wsOf (put F 0 false) 16) := GP
        have HBP := hide ((unhide HB4).trans F5.below)
        have z9 : none8 (put F 0 false) = true := by rw [← unhide HF0]; decide
        clear G4 F5 HB4
        go_wp2_with fail
        refine (poll_all h (h + 1) h 1 _ _ w5 GP (by rw [wsOf_len]; exact hm16)).mono ?_
        rintro e w6 ⟨v6, rfl, o6, G6, F6⟩
        rw [free_all z9, wsOf_len, ids_all] at o6
        rw [held_none z9] at G6
        obtain ⟨a6, c6, rfl⟩ := own_form o6
        have R6 := Rd.of_own o6
        have HG6 := hide G6
        have HB6 := hide ((unhide HBP).trans F6.below)
        have HR6 := hide R6
        clear F6 G6 o6 R6 GP HBP
        go_wp2_with fail
        go_loopw [12] (fun i wx => ∃ j : Nat, j ≤ 16 ∧ i = .int .i64 j ∧ w6 = wx) (fun i _ => 16 - (intOf i).toNat)
        case atStart => exact ⟨0, Nat.zero_le _, rfl, rfl⟩
        case round =>
          obtain ⟨j, hj, rfl, rfl⟩ := hrel
          by_cases hjm : j < 16
          · have i1 : (j : Int) < ((16 : Nat) : Int) := by omega
            have i0 : (0 : Int) ≤ (j : Int) := by omega
            have i24 : (j : Int) ≤ 16 := by omega
            obtain ⟨ax, cx, ex, hy⟩ := unhide HR6
            simp only [Value.slice.injEq] at ex
            obtain ⟨rfl, -, rfl⟩ := ex
            obtain ⟨g, eg, hx⟩ := hy (nos_ne hjm)
            clear hy
            subst eg
            have c1 := (hx j _ (nos_get 16 j hjm)).1
            clear hx HR6
            go_wp2_with fail
            go_roundw
            case rel => exact ⟨j + 1, by omega, by go_num, trivial⟩
            case measure => simp [intOf]; omega
          · obtain rfl : j = 16 := by omega
            have HD := hide (defer_ok h (h + 1) h 1 99 _ _ w6 (unhide HG6) (by simp))
            clear HR6
            go_wp2_with fail
            refine (unhide HD).mono ?_
            rintro e w7 ⟨rfl, G7, F7⟩
            have HW := hide (waits_all h (h + 1) h 1 _ _ w7 G7 (by simp))
            have HB7 := hide ((unhide HB6).trans F7.below)
            have hb7 := G7.base_le
            clear G7 F7 HD HG6 HB6
            go_wp2_with fail
            refine (unhide HW).mono ?_
            rintro e w8 ⟨v8, rfl, o8, B8⟩
            have R8 := hide (Rd.of_own (xs := [99]) o8)
            have HB8 := hide ((unhide HB7).trans (B8.mono hb7))
            have hb8 := B8.size
            clear o8 B8 HW
            go_wp2_with fail
            refine (same64 v8 _ [99] [99] _ ((unhide R8).below ((Below.refl _ _).alloc (Nat.le_refl _) _)) (Rd.one w8 99 2) (by simp)).mono ?_
            rintro e w9 ⟨rfl, B9⟩
            have HB9 := hide (((unhide HB8).alloc (by omega) (.cells #[.int .i64 99] 2)).trans (B9.mono (by simp; omega)))
            have hb9 := B9.size
            simp at hb9
            clear B9 R8
            go_wp2_with fail
            refine (known_true w9).mono ?_
            rintro e w10 ⟨rfl, B10⟩
            have HB10 := hide ((unhide HB9).trans (B10.mono (by omega)))
            clear B10
            go_wp2_with fail
            go_ret
            rw [unhide HH]
            exact ⟨by simp, unhide HB10⟩
      · go_wp2_with fail
        refine (waits_all h (h + 1) h 1 _ _ wr (unhide HG) (by rw [wsOf_len]; exact hm16)).mono ?_
        rintro e w3 ⟨v3, rfl, o3, B3⟩
        rw [wsOf_len] at o3
        obtain ⟨a3, c3, rfl⟩ := own_form o3
        have G3 := (unhide HG).below B3
        have hb3 := G3.base_le
        have HB3 := hide ((unhide HB).trans (B3.mono (unhide HG).base_le))
        clear B3 o3 HG HB
        go_wp2_with fail
        refine (poll_all h (h + 1) h 1 _ _ w3 G3 (by rw [wsOf_len]; exact hm16)).mono ?_
        rintro e w4 ⟨v4, rfl, o4, G4, F4⟩
        rw [free_none z8] at o4
        replace o4 : w4.ownsRow w3.heap.size 2 1 v4 0 [] := o4
        obtain ⟨a4, c4, rfl⟩ := own_form o4
        rw [held_all z8] at G4
        have HB4 := hide ((unhide HB3).trans F4.below)
        clear G3 o4 F4 HB3
        go_wp2_with fail
        refine (leave_out h (h + 1) h 1 0 _ _ w4 G4 (by rw [wsOf_len]; exact hm16) rfl).mono ?_
        rintro e w5 ⟨rfl, GP, F5⟩
        rw [wsOf_clr] at GP
        replace GP : Gr h w5 (h + 1) h 1 [0] (wsOf (put F 0 false) k) := GP
        have HBP := hide ((unhide HB4).trans F5.below)
        have z9 : none8 (put F 0 false) = true := by rw [← unhide HF0]; decide
        clear G4 F5 HB4
        go_wp2_with fail
        refine (poll_all h (h + 1) h 1 _ _ w5 GP (by rw [wsOf_len]; exact hm16)).mono ?_
        rintro e w6 ⟨v6, rfl, o6, G6, F6⟩
        rw [free_all z9, wsOf_len, ids_all] at o6
        rw [held_none z9] at G6
        obtain ⟨a6, c6, rfl⟩ := own_form o6
        have R6 := Rd.of_own o6
        have HG6 := hide G6
        have HB6 := hide ((unhide HBP).trans F6.below)
        have HR6 := hide R6
        clear F6 G6 o6 R6 GP HBP
        go_wp2_with fail
        go_loopw [12] (fun i wx => ∃ j : Nat, j ≤ k ∧ i = .int .i64 j ∧ w6 = wx) (fun i _ => k - (intOf i).toNat)
        case atStart => exact ⟨0, Nat.zero_le _, rfl, rfl⟩
        case round =>
          obtain ⟨j, hj, rfl, rfl⟩ := hrel
          by_cases hjm : j < k
          · have i1 : (j : Int) < ((k : Nat) : Int) := by omega
            have i0 : (0 : Int) ≤ (j : Int) := by omega
            have i24 : (j : Int) ≤ 16 := by omega
            obtain ⟨ax, cx, ex, hy⟩ := unhide HR6
            simp only [Value.slice.injEq] at ex
            obtain ⟨rfl, -, rfl⟩ := ex
            obtain ⟨g, eg, hx⟩ := hy (nos_ne hjm)
            clear hy
            subst eg
            have c1 := (hx j _ (nos_get k j hjm)).1
            clear hx HR6
            go_wp2_with fail
            go_roundw
            case rel => exact ⟨j + 1, by omega, by go_num, trivial⟩
            case measure => simp [intOf]; omega
          · obtain rfl : j = k := by omega
            have HD := hide (defer_ok h (h + 1) h 1 99 _ _ w6 (unhide HG6) (by simp))
            clear HR6
            go_wp2_with fail
            refine (unhide HD).mono ?_
            rintro e w7 ⟨rfl, G7, F7⟩
            have HW := hide (waits_all h (h + 1) h 1 _ _ w7 G7 (by simp))
            have HB7 := hide ((unhide HB6).trans F7.below)
            have hb7 := G7.base_le
            clear G7 F7 HD HG6 HB6
            go_wp2_with fail
            refine (unhide HW).mono ?_
            rintro e w8 ⟨v8, rfl, o8, B8⟩
            have R8 := hide (Rd.of_own (xs := [99]) o8)
            have HB8 := hide ((unhide HB7).trans (B8.mono hb7))
            have hb8 := B8.size
            clear o8 B8 HW
            go_wp2_with fail
            refine (same64 v8 _ [99] [99] _ ((unhide R8).below ((Below.refl _ _).alloc (Nat.le_refl _) _)) (Rd.one w8 99 2) (by simp)).mono ?_
            rintro e w9 ⟨rfl, B9⟩
            have HB9 := hide (((unhide HB8).alloc (by omega) (.cells #[.int .i64 99] 2)).trans (B9.mono (by simp; omega)))
            have hb9 := B9.size
            simp at hb9
            clear B9 R8
            go_wp2_with fail
            refine (known_true w9).mono ?_
            rintro e w10 ⟨rfl, B10⟩
            have HB10 := hide ((unhide HB9).trans (B10.mono (by omega)))
            clear B10
            go_wp2_with fail
            go_ret
            rw [unhide HH]
            exact ⟨by simp, unhide HB10⟩

set_option maxRecDepth 100000 in
set_option maxHeartbeats 1000000 in
theorem walk_f (a0 : Int) (w : World) :
    Calls Try.prog 7 #[.int .i64 a0, .bool false] w fun e w' => e = .returned (.bool true) ∧ Below w.heap.size w w' := by
  go_enter Try.func7, Try.ntmps7
  go_wp2_with fail
  refine (new_good 1 (by omega) (by omega) w).mono ?_
  rintro e w1 ⟨rfl, G1, hB1⟩
  generalize hh : w.heap.size = h at *
  have HH := hide hh
  clear hh
  replace G1 : Gr h w1 (h + 1) h 1 [0] [] := G1
  go_wp2_with fail
  refine (within_any a0 24 w1 (by omega) (by omega)).mono ?_
  rintro e w1' ⟨⟨n, hn, rfl⟩, rfl⟩
  have q0 : (0 : Int) ≤ (n : Int) := by omega
  have HB1 := hide hB1
  have HG1 := hide G1
  have z8 : none8 (ins [0]) = true := by decide
  clear G1 hB1
  generalize hF : ins [0] = F at z8
  have HF0 := hide hF
  clear hF
  go_wp2_with fail
  go_loopw [7, 8, 9] (fun i _ _ wr => ∃ k : Nat, k ≤ n ∧ i = .int .i64 k ∧ Gr h wr (h + 1) h 1 [0] (wsOf F (min k 16)) ∧ Below h w wr) (fun i _ _ _ => n - (intOf i).toNat)
  case atStart => exact ⟨0, Nat.zero_le _, rfl, unhide HG1, unhide HB1⟩
  case round =>
    obtain ⟨k, hk, rfl, G, B⟩ := hrel
    clear HG1 HB1
    by_cases hkn : k < n
    · have j1 : (k : Int) < (n : Int) := by omega
      have j24 : (k : Int) ≤ 24 := by omega
      have j0 : (0 : Int) ≤ (k : Int) := by omega
      by_cases hk16 : k < 16
      · have j16 : (k : Int) < 16 := by omega
        rw [Nat.min_eq_left (by omega)] at G
        have HD := hide (defer_ok h (h + 1) h 1 (k : Int) _ _ wr G (by rw [wsOf_len]; exact hk16))
        have HB := hide B
        clear G B
        go_wp2_with fail
        refine (unhide HD).mono ?_
        rintro e w2 ⟨rfl, G2, F2⟩
        rw [unhide HF0, wsOf_succ] at G2
        rw [unhide HF0, z8]
        have HG2 := hide G2
        have HB2 := hide ((unhide HB).trans F2.below)
        clear G2 F2 HB HD
        go_wp2_with fail
        go_roundw
        case rel => exact ⟨k + 1, by omega, by go_num, by rw [Nat.min_eq_left (by omega)]; exact unhide HG2, unhide HB2⟩
        case measure => simp [intOf]; omega
      · have j16 : ¬ (k : Int) < 16 := by omega
        rw [Nat.min_eq_right (by omega)] at G
        have HD := hide (defer_full h (h + 1) h 1 (k : Int) _ _ wr G (by rw [wsOf_len]; omega))
        have HB := hide B
        have HG := hide G
        clear G B
        go_wp2_with fail
        refine (unhide HD).mono ?_
        rintro e w2 ⟨rfl, rfl⟩
        go_wp2_with fail
        go_roundw
        case rel => exact ⟨k + 1, by omega, by go_num, by rw [Nat.min_eq_right (by omega)]; exact unhide HG, unhide HB⟩
        case measure => simp [intOf]; omega
    · obtain rfl : k = n := by omega
      obtain ⟨m, hm⟩ : ∃ m, min k 16 = m := ⟨_, rfl⟩
      rw [hm] at G
      have hm16 : m ≤ 16 := by omega
      have HG := hide G
      have HB := hide B
      clear G B
      have hcut : (16 : Int) < (k : Int) ∧ m = 16 ∨ ¬ (16 : Int) < (k : Int) ∧ k = m := by omega
      clear hm
      rcases hcut with ⟨hc, rfl⟩ | ⟨hc, rfl⟩
      · have hq : ((16 : Nat) : Int) = 16 := rfl
        go_wp2_with fail
        refine (waits_all h (h + 1) h 1 _ _ wr (unhide HG) (by rw [wsOf_len]; exact hm16)).mono ?_
        rintro e w3 ⟨v3, rfl, o3, B3⟩
        rw [wsOf_len] at o3
        obtain ⟨a3, c3, rfl⟩ := own_form o3
        have G3 := (unhide HG).below B3
        have hb3 := G3.base_le
        have HB3 := hide ((unhide HB).trans (B3.mono (unhide HG).base_le))
        clear B3 o3 HG HB
        have z9 := z8
        have GP := G3
        have HBP := HB3
        clear HB3 G3
        go_wp2_with fail
        refine (poll_all h (h + 1) h 1 _ _ w3 GP (by rw [wsOf_len]; exact hm16)).mono ?_
        rintro e w6 ⟨v6, rfl, o6, G6, F6⟩
        rw [free_all z9, wsOf_len, ids_all] at o6
        rw [held_none z9] at G6
        obtain ⟨a6, c6, rfl⟩ := own_form o6
        have R6 := Rd.of_own o6
        have HG6 := hide G6
        have HB6 := hide ((unhide HBP).trans F6.below)
        have HR6 := hide R6
        clear F6 G6 o6 R6 GP HBP
        go_wp2_with fail
        go_loopw [12] (fun i wx => ∃ j : Nat, j ≤ 16 ∧ i = .int .i64 j ∧ w6 = wx) (fun i _ => 16 - (intOf i).toNat)
        case atStart => exact ⟨0, Nat.zero_le _, rfl, rfl⟩
        case round =>
          obtain ⟨j, hj, rfl, rfl⟩ := hrel
          by_cases hjm : j < 16
          · have i1 : (j : Int) < ((16 : Nat) : Int) := by omega
            have i0 : (0 : Int) ≤ (j : Int) := by omega
            have i24 : (j : Int) ≤ 16 := by omega
            obtain ⟨ax, cx, ex, hy⟩ := unhide HR6
            simp only [Value.slice.injEq] at ex
            obtain ⟨rfl, -, rfl⟩ := ex
            obtain ⟨g, eg, hx⟩ := hy (nos_ne hjm)
            clear hy
            subst eg
            have c1 := (hx j _ (nos_get 16 j hjm)).1
            clear hx HR6
            go_wp2_with fail
            go_roundw
            case rel => exact ⟨j + 1, by omega, by go_num, trivial⟩
            case measure => simp [intOf]; omega
          · obtain rfl : j = 16 := by omega
            have HD := hide (defer_ok h (h + 1) h 1 99 _ _ w6 (unhide HG6) (by simp))
            clear HR6
            go_wp2_with fail
            refine (unhide HD).mono ?_
            rintro e w7 ⟨rfl, G7, F7⟩
            have HW := hide (waits_all h (h + 1) h 1 _ _ w7 G7 (by simp))
            have HB7 := hide ((unhide HB6).trans F7.below)
            have hb7 := G7.base_le
            clear G7 F7 HD HG6 HB6
            go_wp2_with fail
            refine (unhide HW).mono ?_
            rintro e w8 ⟨v8, rfl, o8, B8⟩
            have R8 := hide (Rd.of_own (xs := [99]) o8)
            have HB8 := hide ((unhide HB7).trans (B8.mono hb7))
            have hb8 := B8.size
            clear o8 B8 HW
            go_wp2_with fail
            refine (same64 v8 _ [99] [99] _ ((unhide R8).below ((Below.refl _ _).alloc (Nat.le_refl _) _)) (Rd.one w8 99 2) (by simp)).mono ?_
            rintro e w9 ⟨rfl, B9⟩
            have HB9 := hide (((unhide HB8).alloc (by omega) (.cells #[.int .i64 99] 2)).trans (B9.mono (by simp; omega)))
            have hb9 := B9.size
            simp at hb9
            clear B9 R8
            go_wp2_with fail
            refine (known_true w9).mono ?_
            rintro e w10 ⟨rfl, B10⟩
            have HB10 := hide ((unhide HB9).trans (B10.mono (by omega)))
            clear B10
            go_wp2_with fail
            go_ret
            rw [unhide HH]
            exact ⟨by simp, unhide HB10⟩
      · go_wp2_with fail
        refine (waits_all h (h + 1) h 1 _ _ wr (unhide HG) (by rw [wsOf_len]; exact hm16)).mono ?_
        rintro e w3 ⟨v3, rfl, o3, B3⟩
        rw [wsOf_len] at o3
        obtain ⟨a3, c3, rfl⟩ := own_form o3
        have G3 := (unhide HG).below B3
        have hb3 := G3.base_le
        have HB3 := hide ((unhide HB).trans (B3.mono (unhide HG).base_le))
        clear B3 o3 HG HB
        have z9 := z8
        have GP := G3
        have HBP := HB3
        clear HB3 G3
        go_wp2_with fail
        refine (poll_all h (h + 1) h 1 _ _ w3 GP (by rw [wsOf_len]; exact hm16)).mono ?_
        rintro e w6 ⟨v6, rfl, o6, G6, F6⟩
        rw [free_all z9, wsOf_len, ids_all] at o6
        rw [held_none z9] at G6
        obtain ⟨a6, c6, rfl⟩ := own_form o6
        have R6 := Rd.of_own o6
        have HG6 := hide G6
        have HB6 := hide ((unhide HBP).trans F6.below)
        have HR6 := hide R6
        clear F6 G6 o6 R6 GP HBP
        go_wp2_with fail
        go_loopw [12] (fun i wx => ∃ j : Nat, j ≤ k ∧ i = .int .i64 j ∧ w6 = wx) (fun i _ => k - (intOf i).toNat)
        case atStart => exact ⟨0, Nat.zero_le _, rfl, rfl⟩
        case round =>
          obtain ⟨j, hj, rfl, rfl⟩ := hrel
          by_cases hjm : j < k
          · have i1 : (j : Int) < ((k : Nat) : Int) := by omega
            have i0 : (0 : Int) ≤ (j : Int) := by omega
            have i24 : (j : Int) ≤ 16 := by omega
            obtain ⟨ax, cx, ex, hy⟩ := unhide HR6
            simp only [Value.slice.injEq] at ex
            obtain ⟨rfl, -, rfl⟩ := ex
            obtain ⟨g, eg, hx⟩ := hy (nos_ne hjm)
            clear hy
            subst eg
            have c1 := (hx j _ (nos_get k j hjm)).1
            clear hx HR6
            go_wp2_with fail
            go_roundw
            case rel => exact ⟨j + 1, by omega, by go_num, trivial⟩
            case measure => simp [intOf]; omega
          · obtain rfl : j = k := by omega
            have HD := hide (defer_ok h (h + 1) h 1 99 _ _ w6 (unhide HG6) (by simp))
            clear HR6
            go_wp2_with fail
            refine (unhide HD).mono ?_
            rintro e w7 ⟨rfl, G7, F7⟩
            have HW := hide (waits_all h (h + 1) h 1 _ _ w7 G7 (by simp))
            have HB7 := hide ((unhide HB6).trans F7.below)
            have hb7 := G7.base_le
            clear G7 F7 HD HG6 HB6
            go_wp2_with fail
            refine (unhide HW).mono ?_
            rintro e w8 ⟨v8, rfl, o8, B8⟩
            have R8 := hide (Rd.of_own (xs := [99]) o8)
            have HB8 := hide ((unhide HB7).trans (B8.mono hb7))
            have hb8 := B8.size
            clear o8 B8 HW
            go_wp2_with fail
            refine (same64 v8 _ [99] [99] _ ((unhide R8).below ((Below.refl _ _).alloc (Nat.le_refl _) _)) (Rd.one w8 99 2) (by simp)).mono ?_
            rintro e w9 ⟨rfl, B9⟩
            have HB9 := hide (((unhide HB8).alloc (by omega) (.cells #[.int .i64 99] 2)).trans (B9.mono (by simp; omega)))
            have hb9 := B9.size
            simp at hb9
            clear B9 R8
            go_wp2_with fail
            refine (known_true w9).mono ?_
            rintro e w10 ⟨rfl, B10⟩
            have HB10 := hide ((unhide HB9).trans (B10.mono (by omega)))
            clear B10
            go_wp2_with fail
            go_ret
            rw [unhide HH]
            exact ⟨by simp, unhide HB10⟩

theorem walk (a0 : Int) (a1 : Bool) (w : World) :
    Calls Try.prog 7 #[.int .i64 a0, .bool a1] w fun e w' => e = .returned (.bool true) ∧ Below w.heap.size w w' := by
  cases a1
  · exact walk_f a0 w
  · exact walk_t a0 w

set_option maxRecDepth 100000 in
theorem lifted (os : Os) (started : os.Started) (H : Type) (enc : TypeId × Value → H) :
    ReturnsInHanded {} Try.checked os 7 .any (Rows.graceFullSpec.pre6 enc Try.prog Try.f7 Rows.graceFullRow.domain false) (Rows.graceFullSpec.post enc Try.prog Try.f7 false true false false) := by
  refine returnsInHanded_of_change (C := Try.checked) own started (by kernel_rfl) Try.func7
    (ChangeSpec.witness6 (enc := enc) (C := Try.checked) false ⟨#[], #[.int .i64 0, .bool false], []⟩ 8 (by kernel_rfl) (by kernel_rfl) (by kernel_rfl) (by kernel_rfl)) ?_
  intro W base args ds gs before hval0 hW hcnd _
  have hval : ∀ (j : Nat) t v, Try.f7.params[j]? = some t → args[j]? = some v → Value.okWide Try.prog W .any base t v := hval0
  have hW' := hW
  obtain ⟨p, q, hA0, hV, rfl, hfz, hnd⟩ := hW
  have hA : DataW.TrodAll enc Try.prog W 0 (fun _ => true) true Try.f7.params.toList args.toList ds p := hA0
  rw [Try.params7] at hA hval
  obtain ⟨v0, vs0, d0, ds0, p0, q0, hargs, rfl, rfl, h0, r0⟩ := trodAll_cons hA
  obtain ⟨v1, vs1, d1, ds1, p1, q1, rfl, rfl, rfl, h1, r1⟩ := trodAll_cons r0
  obtain ⟨rfl, rfl, rfl⟩ := trodAll_nil r1
  obtain rfl : args = #[v0, v1] := by cases args; simp_all
  obtain ⟨rfl, rfl⟩ := trodVars_none hV
  obtain ⟨a0, rfl, rfl, rfl, w0⟩ := open_int Try.underlying3 (hval 0 3 v0 rfl rfl) h0
  obtain ⟨a1, rfl, rfl, rfl⟩ := open_bool Try.underlying4 (hval 1 4 v1 rfl rfl) h1
  clear hA0 hval0
  simp only [List.append_nil] at hW'
  refine (walk a0 a1 W).mono fun e W' ⟨he, hg⟩ => ?_
  subst he
  exact ⟨_, rfl, _, _, _, [], _, [], hW', trodAll_mk1 (shut_bool Try.underlying4 _), (trodAll_cons_mk (shut_int Try.underlying3 w0) (trodAll_cons_mk (shut_bool Try.underlying4 _) trodAll_mk0)), rfl, hg.frame _, fun h => by cases h⟩

theorem over : Rows.graceFullRow.holds Try.pinned (OpenSpec.ofChange Rows.graceFullSpec) :=
  OpenClaim.holds_of_wide 7 Try.f7 rfl rfl rfl rfl rfl rfl rfl ⟨rfl, rfl, rfl, rfl, rfl⟩ rfl rfl rfl rfl rfl (by kernel_rfl) Try.func7 (by kernel_rfl)
    (of_decide_eq_true (by kernel_rfl)) (by unfold Func.isWrapper; first | (rw [if_pos (by decide +kernel)]; kernel_rfl) | (rw [if_neg (by decide +kernel)]; exact ⟨rfl, rfl⟩))
    (fun os started H enc _ => lifted os started H enc)

end Go.Proofs.Ytkgcgfnleabkdaa.graceFull

namespace Go.Proofs.Ytkgcgfnleabkdaa
/-- GraceFull answers true. -/
theorem graceFull_proved : Rows.GraceFullSaid := graceFull.over
#print axioms graceFull_proved
end Go.Proofs.Ytkgcgfnleabkdaa
