/-
  LruPins: the walk.
-/
import Derived.Test.YtjcjibjagjiedaaAny
namespace Go.Proofs.Ytjcjibjagjiedaa
open Go.RowKit
attribute [local go_sem ↓] Go.wp_at_zero Go.wp_at_succ

theorem one_has (k : ByteArray) (x : Int) : has [(k, x)] k = true := by simp [has]
theorem one_ix (k : ByteArray) (x : Int) : ix [(k, x)] k = 0 := by simp [ix, List.findIdx_cons]
theorem one_pins (k : ByteArray) (x : Int) : pins [(k, x)] k = x := by simp [pins, one_ix]
theorem one_pin (k : ByteArray) (x : Int) : pinM [(k, x)] k = [(k, x + 1)] := by simp [pinM, one_has, one_ix, one_pins]
theorem one_unpin (k : ByteArray) (x : Int) : unpinM [(k, x)] k = [(k, if 0 < x then x - 1 else x)] := by
  by_cases h : 0 < x <;> simp [unpinM, one_has, one_ix, one_pins, h]
theorem one_drop (k : ByteArray) (x : Int) : dropM [(k, x)] k = [] := by simp [dropM, one_has, one_ix, era]
theorem one_shr (k : ByteArray) (x : Int) : shr 5 [(k, x)] = if 0 < x then ([], [(k, x)]) else ([k], []) := by
  by_cases h : 0 < x <;> simp [shr, stepS, h]
theorem no_has (k : ByteArray) : has [] k = false := rfl
theorem one_fit (k : ByteArray) (x : Int) (h0 : 0 ≤ x) (h1 : x ≤ 1000) : Fit 1000 [(k, x)] := ⟨by simp, by simp [h0, h1]⟩

set_option maxRecDepth 100000 in
set_option maxHeartbeats 2000000 in
theorem pins_walk (a0 a1 : Int) (again : Bool) (w : World) :
    Calls Try.prog 6 #[.int .i64 a0, .int .i64 a1, .bool again] w fun e w' => e = .returned (.bool true) ∧ Below w.heap.size w w' := by
  have K1 := hide (new_T 4 (by omega) (by omega) w)
  go_enter Try.func6, Try.ntmps6
  go_wp2_with fail
  refine (unhide K1).mono ?_
  rintro e w1 ⟨b, rfl, T⟩
  clear K1
  have K := hide (within_any a0 10 w1 (by omega) (by omega))
  replace T := hide T
  go_wp2_with fail
  refine (unhide K).mono ?_
  rintro e w2 ⟨⟨P, P0, P1, rfl⟩, rfl⟩
  clear K
  have K := hide (within_any a1 12 w2 (by omega) (by omega))
  go_wp2_with fail
  refine (unhide K).mono ?_
  rintro e w3 ⟨⟨U, U0, U1, rfl⟩, rfl⟩
  clear K
  have K := hide (use_T ⟨#[97]⟩ (unhide T) (by simp))
  rw [u1 4 (by omega)] at K
  clear T
  go_wp2_with fail
  refine (unhide K).mono ?_
  rintro e w4 ⟨rfl, T, -⟩
  clear K
  replace T := hide T
  go_wp2_with fail
  obtain ⟨pn, rfl⟩ : ∃ n : Nat, P = (n : Int) := ⟨P.toNat, by omega⟩
  obtain ⟨un, rfl⟩ : ∃ n : Nat, U = (n : Int) := ⟨U.toNat, by omega⟩
  go_loopw [9] (fun i wr => ∃ k : Nat, k ≤ pn ∧ i = .int .i64 (k : Int) ∧ Hid (Lt w wr b 4 [(⟨#[97]⟩, (k : Int))])) (fun i _ => pn - (intOf i).toNat)
  case atStart => exact ⟨0, by omega, rfl, T⟩
  case round =>
    obtain ⟨k, hk, rfl, T⟩ := hrel
    by_cases hlt : k < pn
    · have j1 : (k : Int) < (pn : Int) := by omega
      have K := hide (pin_T ⟨#[97]⟩ (unhide T) (one_fit _ _ (by omega) (by omega)))
      rw [one_has, one_pin] at K
      clear T
      go_wp2_with fail
      refine (unhide K).mono ?_
      rintro e w5 ⟨rfl, T, -⟩
      replace T := hide T
      clear K
      go_wp2_with fail
      exact ⟨⟨k + 1, by omega, rfl, T⟩, by simp [intOf]; omega⟩
    · have j1 : ¬ (k : Int) < (pn : Int) := by omega
      obtain rfl : k = pn := by omega
      go_wp2_with fail
      go_loopw [10] (fun i wr => ∃ j : Nat, j ≤ un ∧ i = .int .i64 (j : Int) ∧ Hid (Lt w wr b 4 [(⟨#[97]⟩, ((k - j : Nat) : Int))])) (fun i _ => un - (intOf i).toNat)
      case atStart => exact ⟨0, by omega, rfl, T⟩
      case round =>
        obtain ⟨j, hj, rfl, T⟩ := hrel
        by_cases hlt2 : j < un
        · have j2 : (j : Int) < (un : Int) := by omega
          have K := hide (unpin_T ⟨#[97]⟩ (unhide T) (one_fit _ _ (by omega) (by omega)))
          rw [one_has, one_unpin, one_pins] at K
          clear T
          by_cases hjk : j < k
          · have j3 : (j : Int) < (k : Int) := by omega
            rw [show decide (0 < ((k - j : Nat) : Int)) = true by simp; omega, if_pos (by omega), show ((k - j : Nat) : Int) - 1 = ((k - (j + 1) : Nat) : Int) by omega] at K
            go_wp2_with fail
            refine (unhide K).mono ?_
            rintro e w5 ⟨rfl, T, -⟩
            replace T := hide T
            clear K
            go_wp2_with fail
            exact ⟨⟨j + 1, by omega, rfl, T⟩, by simp [intOf]; omega⟩
          · have j3 : ¬ (j : Int) < (k : Int) := by omega
            rw [show decide (0 < ((k - j : Nat) : Int)) = false by simp; omega, if_neg (by omega), show ((k - j : Nat) : Int) = ((k - (j + 1) : Nat) : Int) by omega] at K
            go_wp2_with fail
            refine (unhide K).mono ?_
            rintro e w5 ⟨rfl, T, -⟩
            replace T := hide T
            clear K
            go_wp2_with fail
            exact ⟨⟨j + 1, by omega, rfl, T⟩, by simp [intOf]; omega⟩
        · have j2 : ¬ (j : Int) < (un : Int) := by omega
          obtain rfl : j = un := by omega
          cases again with
          | true =>
            have K := hide (drop_T ⟨#[97]⟩ (unhide T) (by simp))
            rw [one_has, one_drop] at K
            clear T
            go_wp2_with fail
            refine (unhide K).mono ?_
            rintro e w5 ⟨rfl, T, -⟩
            clear K
            have K := hide (use_T ⟨#[97]⟩ T (by simp))
            rw [u1 4 (by omega)] at K
            clear T
            go_wp2_with fail
            refine (unhide K).mono ?_
            rintro e w6 ⟨rfl, T, -⟩
            clear K
            have K := hide (shrink_T 5 T (by simp))
            rw [one_shr, if_neg (by omega)] at K
            clear T
            go_wp2_with fail
            refine (unhide K).mono ?_
            rintro e w7 ⟨ga, gc, rfl, -, T, -⟩
            clear K
            have K := hide (has_T ⟨#[97]⟩ T (by simp))
            rw [no_has] at K
            clear T
            go_wp2_with fail
            refine (unhide K).mono ?_
            rintro e w8 ⟨rfl, T, -⟩
            clear K
            have K := hide (known_any w8)
            replace T := hide T
            go_wp2_with fail
            refine (unhide K).mono ?_
            rintro e w9 ⟨rfl, B⟩
            replace B := hide B
            go_wp2_with fail
            go_ret
            exact ⟨rfl, ((unhide T).below (unhide B)).be⟩
          | false =>
            by_cases hy : 0 < ((k - j : Nat) : Int)
            · have g1 : ((k : Int) ≤ (j : Int)) = False := by simp; omega
              have g2 : (k ≤ j) = False := by simp; omega
              have K := hide (shrink_T 5 (unhide T) (by simp))
              rw [one_shr, if_pos hy] at K
              clear T
              go_wp2_with fail
              refine (unhide K).mono ?_
              rintro e w7 ⟨ga, gc, rfl, -, T, -⟩
              clear K
              have K := hide (has_T ⟨#[97]⟩ T (by simp))
              rw [one_has] at K
              clear T
              go_wp2_with fail
              refine (unhide K).mono ?_
              rintro e w8 ⟨rfl, T, -⟩
              clear K
              have K := hide (known_any w8)
              replace T := hide T
              go_wp2_with fail
              refine (unhide K).mono ?_
              rintro e w9 ⟨rfl, B⟩
              replace B := hide B
              go_wp2_with fail
              go_ret
              exact ⟨rfl, ((unhide T).below (unhide B)).be⟩
            · have g1 : (k : Int) ≤ (j : Int) := by omega
              have K := hide (shrink_T 5 (unhide T) (by simp))
              rw [one_shr, if_neg hy] at K
              clear T
              go_wp2_with fail
              refine (unhide K).mono ?_
              rintro e w7 ⟨ga, gc, rfl, -, T, -⟩
              clear K
              have K := hide (has_T ⟨#[97]⟩ T (by simp))
              rw [no_has] at K
              clear T
              go_wp2_with fail
              refine (unhide K).mono ?_
              rintro e w8 ⟨rfl, T, -⟩
              clear K
              have K := hide (known_any w8)
              replace T := hide T
              go_wp2_with fail
              refine (unhide K).mono ?_
              rintro e w9 ⟨rfl, B⟩
              replace B := hide B
              go_wp2_with fail
              go_ret
              exact ⟨rfl, ((unhide T).below (unhide B)).be⟩
end Go.Proofs.Ytjcjibjagjiedaa
