/-
  The document's own small, Right.
-/
import Derived.Test.YtcopjhidijhlaaaCEnc
namespace Go.Proofs.Ytcopjhidijhlaaa.Cl
open Go.RowKit
attribute [local go_sem ↓] Go.wp_at_zero Go.wp_at_succ

set_option maxHeartbeats 400000 in
theorem esmall_any (n : Int) (w : World) : Calls Try.prog 40 #[I n] w fun e w' => e = .returned (.bool (okN n)) ∧ w' = w := by
  unfold okN
  by_cases h1 : -2147483648 ≤ n
  · have h2 : decide (-2147483648 ≤ n) = true := by simpa using h1
    rw [h2]
    go_enter Try.func40, Try.ntmps40
    go_wp2_with fail
    go_ret
    exact ⟨rfl, rfl⟩
  · have h2 : decide (-2147483648 ≤ n) = false := by simpa using h1
    rw [h2]
    go_enter Try.func40, Try.ntmps40
    go_wp2_with fail
    go_ret
    exact ⟨rfl, rfl⟩

theorem cs9 {W : World} {b : Nat} {x : Cc} {d : Value} (h : W.heap[b]? = some (.cells (x.cs d) 27)) : W.cell? ⟨b, 0, none⟩ = some (I x.op) ∧ W.cell? ⟨b, 1, none⟩ = some (S x.path) ∧ W.cell? ⟨b, 2, none⟩ = some (S x.dst) ∧ W.cell? ⟨b, 3, none⟩ = some (I x.fd) ∧ W.cell? ⟨b, 4, none⟩ = some (I x.fl) ∧ W.cell? ⟨b, 5, none⟩ = some (I x.mo) ∧ W.cell? ⟨b, 6, none⟩ = some (I x.n) ∧ W.cell? ⟨b, 7, none⟩ = some (I x.m) ∧ W.cell? ⟨b, 8, none⟩ = some d := by
  refine ⟨?_, ?_, ?_, ?_, ?_, ?_, ?_, ?_, ?_⟩ <;> (rw [cell_of h]; rfl)

set_option maxRecDepth 100000 in
set_option maxHeartbeats 2000000 in
theorem eright_any (x : Cc) (a : Option Addr) (k cap : Nat) (hk : k = x.data.length) (w : World) :
    Calls Try.prog 28 #[.agg (x.cs (.slice a k cap))] w fun e w' => e = .returned (I x.right) ∧ Below w.heap.size w w' := by
  subst hk
  obtain ⟨V, hV, hs, g0, hB⟩ := alloc1 w (.cells (x.cs (.slice a x.data.length cap)) 27)
  obtain ⟨b0, b1, b2, b3, b4, b5, b6, b7, b8⟩ := cs9 g0
  have HB := hide hB
  clear hB g0 hs
  obtain ⟨r, hr⟩ : ∃ r, x.right = r := ⟨_, rfl⟩
  rw [hr]
  unfold Cc.right Cc.okNs at hr
  have S3 := fun W => esmall_any x.fd W
  have S4 := fun W => esmall_any x.fl W
  have S5 := fun W => esmall_any x.mo W
  have S6 := fun W => esmall_any x.n W
  have S7 := fun W => esmall_any x.m W
  have HS := hide (⟨S3, S4, S5, S6, S7⟩ : _ ∧ _ ∧ _ ∧ _ ∧ _)
  clear S3 S4 S5 S6 S7
  generalize okN x.fd = k3 at *
  generalize okN x.fl = k4 at *
  generalize okN x.mo = k5 at *
  generalize okN x.n = k6 at *
  generalize okN x.m = k7 at *
  by_cases h1 : x.op < 1
  · obtain rfl : r = 1 := by rw [← hr, if_pos (.inl h1)]
    clear hr HS
    go_enter Try.func28, Try.ntmps28
    go_wp2_with fail
    go_ret
    exact ⟨rfl, unhide HB⟩
  · by_cases h2 : 20 < x.op
    · obtain rfl : r = 1 := by rw [← hr, if_pos (.inr h2)]
      clear hr HS
      go_enter Try.func28, Try.ntmps28
      go_wp2_with fail
      go_ret
      exact ⟨rfl, unhide HB⟩
    · rw [if_neg (by omega)] at hr
      cases k3 with
      | false =>
        obtain rfl : r = 1 := by rw [← hr]; simp
        clear hr
        go_enter Try.func28, Try.ntmps28
        go_wp2_with fail
        refine ((unhide HS).1 _).mono ?_
        rintro e W' ⟨rfl, rfl⟩
        go_wp2_with fail
        go_ret
        exact ⟨rfl, unhide HB⟩
      | true =>
        cases k4 with
        | false =>
          obtain rfl : r = 1 := by rw [← hr]; simp
          clear hr
          go_enter Try.func28, Try.ntmps28
          go_wp2_with fail
          refine ((unhide HS).1 _).mono ?_
          rintro e W' ⟨rfl, rfl⟩
          go_wp2_with fail
          refine ((unhide HS).2.1 _).mono ?_
          rintro e W' ⟨rfl, rfl⟩
          go_wp2_with fail
          go_ret
          exact ⟨rfl, unhide HB⟩
        | true =>
          cases k5 with
          | false =>
            obtain rfl : r = 1 := by rw [← hr]; simp
            clear hr
            go_enter Try.func28, Try.ntmps28
            go_wp2_with fail
            refine ((unhide HS).1 _).mono ?_
            rintro e W' ⟨rfl, rfl⟩
            go_wp2_with fail
            refine ((unhide HS).2.1 _).mono ?_
            rintro e W' ⟨rfl, rfl⟩
            go_wp2_with fail
            refine ((unhide HS).2.2.1 _).mono ?_
            rintro e W' ⟨rfl, rfl⟩
            go_wp2_with fail
            go_ret
            exact ⟨rfl, unhide HB⟩
          | true =>
            cases k6 with
            | false =>
              obtain rfl : r = 1 := by rw [← hr]; simp
              clear hr
              go_enter Try.func28, Try.ntmps28
              go_wp2_with fail
              refine ((unhide HS).1 _).mono ?_
              rintro e W' ⟨rfl, rfl⟩
              go_wp2_with fail
              refine ((unhide HS).2.1 _).mono ?_
              rintro e W' ⟨rfl, rfl⟩
              go_wp2_with fail
              refine ((unhide HS).2.2.1 _).mono ?_
              rintro e W' ⟨rfl, rfl⟩
              go_wp2_with fail
              refine ((unhide HS).2.2.2.1 _).mono ?_
              rintro e W' ⟨rfl, rfl⟩
              go_wp2_with fail
              go_ret
              exact ⟨rfl, unhide HB⟩
            | true =>
              cases k7 with
              | false =>
                obtain rfl : r = 1 := by rw [← hr]; simp
                clear hr
                go_enter Try.func28, Try.ntmps28
                go_wp2_with fail
                refine ((unhide HS).1 _).mono ?_
                rintro e W' ⟨rfl, rfl⟩
                go_wp2_with fail
                refine ((unhide HS).2.1 _).mono ?_
                rintro e W' ⟨rfl, rfl⟩
                go_wp2_with fail
                refine ((unhide HS).2.2.1 _).mono ?_
                rintro e W' ⟨rfl, rfl⟩
                go_wp2_with fail
                refine ((unhide HS).2.2.2.1 _).mono ?_
                rintro e W' ⟨rfl, rfl⟩
                go_wp2_with fail
                refine ((unhide HS).2.2.2.2 _).mono ?_
                rintro e W' ⟨rfl, rfl⟩
                go_wp2_with fail
                go_ret
                exact ⟨rfl, unhide HB⟩
              | true =>
                simp only [Bool.and_true, Bool.true_eq_false, if_false] at hr
                by_cases l1 : 5000 < x.path.length
                · have m1 : (5000 : Int) < (x.path.length : Int) := by omega
                  obtain rfl : r = 3 := by rw [← hr]; rw [if_pos (.inl l1)]
                  clear hr
                  go_enter Try.func28, Try.ntmps28
                  go_wp2_with fail
                  refine ((unhide HS).1 _).mono ?_
                  rintro e W' ⟨rfl, rfl⟩
                  go_wp2_with fail
                  refine ((unhide HS).2.1 _).mono ?_
                  rintro e W' ⟨rfl, rfl⟩
                  go_wp2_with fail
                  refine ((unhide HS).2.2.1 _).mono ?_
                  rintro e W' ⟨rfl, rfl⟩
                  go_wp2_with fail
                  refine ((unhide HS).2.2.2.1 _).mono ?_
                  rintro e W' ⟨rfl, rfl⟩
                  go_wp2_with fail
                  refine ((unhide HS).2.2.2.2 _).mono ?_
                  rintro e W' ⟨rfl, rfl⟩
                  go_wp2_with fail
                  go_ret
                  exact ⟨rfl, unhide HB⟩
                · have m1 : ¬ (5000 : Int) < (x.path.length : Int) := by omega
                  by_cases l2 : 5000 < x.dst.length
                  · have m2 : (5000 : Int) < (x.dst.length : Int) := by omega
                    obtain rfl : r = 3 := by rw [← hr]; rw [if_pos (.inr (.inl l2))]
                    clear hr
                    go_enter Try.func28, Try.ntmps28
                    go_wp2_with fail
                    refine ((unhide HS).1 _).mono ?_
                    rintro e W' ⟨rfl, rfl⟩
                    go_wp2_with fail
                    refine ((unhide HS).2.1 _).mono ?_
                    rintro e W' ⟨rfl, rfl⟩
                    go_wp2_with fail
                    refine ((unhide HS).2.2.1 _).mono ?_
                    rintro e W' ⟨rfl, rfl⟩
                    go_wp2_with fail
                    refine ((unhide HS).2.2.2.1 _).mono ?_
                    rintro e W' ⟨rfl, rfl⟩
                    go_wp2_with fail
                    refine ((unhide HS).2.2.2.2 _).mono ?_
                    rintro e W' ⟨rfl, rfl⟩
                    go_wp2_with fail
                    go_ret
                    exact ⟨rfl, unhide HB⟩
                  · have m2 : ¬ (5000 : Int) < (x.dst.length : Int) := by omega
                    by_cases l3 : 2000 < x.data.length
                    · have m3 : (2000 : Int) < (x.data.length : Int) := by omega
                      obtain rfl : r = 3 := by rw [← hr]; rw [if_pos (.inr (.inr l3))]
                      clear hr
                      go_enter Try.func28, Try.ntmps28
                      go_wp2_with fail
                      refine ((unhide HS).1 _).mono ?_
                      rintro e W' ⟨rfl, rfl⟩
                      go_wp2_with fail
                      refine ((unhide HS).2.1 _).mono ?_
                      rintro e W' ⟨rfl, rfl⟩
                      go_wp2_with fail
                      refine ((unhide HS).2.2.1 _).mono ?_
                      rintro e W' ⟨rfl, rfl⟩
                      go_wp2_with fail
                      refine ((unhide HS).2.2.2.1 _).mono ?_
                      rintro e W' ⟨rfl, rfl⟩
                      go_wp2_with fail
                      refine ((unhide HS).2.2.2.2 _).mono ?_
                      rintro e W' ⟨rfl, rfl⟩
                      go_wp2_with fail
                      go_ret
                      exact ⟨rfl, unhide HB⟩
                    · have m3 : ¬ (2000 : Int) < (x.data.length : Int) := by omega
                      obtain rfl : r = 0 := by rw [← hr]; rw [if_neg (by omega)]
                      clear hr
                      go_enter Try.func28, Try.ntmps28
                      go_wp2_with fail
                      refine ((unhide HS).1 _).mono ?_
                      rintro e W' ⟨rfl, rfl⟩
                      go_wp2_with fail
                      refine ((unhide HS).2.1 _).mono ?_
                      rintro e W' ⟨rfl, rfl⟩
                      go_wp2_with fail
                      refine ((unhide HS).2.2.1 _).mono ?_
                      rintro e W' ⟨rfl, rfl⟩
                      go_wp2_with fail
                      refine ((unhide HS).2.2.2.1 _).mono ?_
                      rintro e W' ⟨rfl, rfl⟩
                      go_wp2_with fail
                      refine ((unhide HS).2.2.2.2 _).mono ?_
                      rintro e W' ⟨rfl, rfl⟩
                      go_wp2_with fail
                      go_ret
                      exact ⟨rfl, unhide HB⟩
end Go.Proofs.Ytcopjhidijhlaaa.Cl
