/-
  WalkLoops: its walk.
-/
import Derived.Test.YthmdipfdloennaaLp26
namespace Go.Proofs.Ythmdipfdloennaa.Wl
open Go.RowKit
attribute [local go_sem ↓] Go.wp_at_zero Go.wp_at_succ

set_option maxHeartbeats 400000 in
theorem within_any (v hi : Int) (w : World) (h0 : 0 ≤ hi) (h1 : hi ≤ 5000) :
    Calls Try.prog 6 #[.int .i64 v, .int .i64 0, .int .i64 hi] w fun e w' => (∃ r : Int, 0 ≤ r ∧ r ≤ hi ∧ e = .returned (.int .i64 r)) ∧ w' = w := by
  have t1 : v.tmod (hi + 1) < hi + 1 := Int.tmod_lt_of_pos v (by omega)
  have t2 : -(hi + 1) < v.tmod (hi + 1) := by
    have h := Int.tmod_lt_of_pos (-v) (show 0 < hi + 1 by omega)
    rw [Int.neg_tmod] at h
    omega
  have t3 : ¬ hi + 1 = 0 := by omega
  by_cases hn : v.tmod (hi + 1) < 0
  · go_enter Try.func6, Try.ntmps6
    go_wp2
    go_ret
    exact ⟨⟨_, by omega, by omega, rfl⟩, rfl⟩
  · go_enter Try.func6, Try.ntmps6
    go_wp2
    go_ret
    exact ⟨⟨_, by omega, by omega, rfl⟩, rfl⟩
theorem app1 (c : UInt8) : (⟨#[108]⟩ ++ ⟨#[c]⟩ : ByteArray) = ⟨#[108, c]⟩ := by
  apply bytes_ext
  simp
theorem app_bs (a b : Bytes) : (bs a ++ bs b : ByteArray) = bs (a ++ b) := by
  apply bytes_ext
  simp
theorem enc_nm : ∀ k : Nat, k < 50 → Utf8.encode (65 + (k : Int)) = ⟨#[(65 + k).toUInt8]⟩ := by decide +kernel
set_option maxRecDepth 100000 in
set_option maxHeartbeats 2000000 in
theorem loops_walk (n : Int) (sl : Bool) (w : World) : Calls Try.prog 3 #[I n, .bool sl] w fun e w' => e = .returned (.bool true) ∧ Below w.heap.size w w' := by
  have H0 := hide (new_P w 64 (by omega))
  have HT := hide top_any
  have HK := hide known_any
  have HWi := hide (fun w => within_any n 50 w (by omega) (by omega))
  go_enter Try.func3, Try.ntmps3
  go_wp2_with fail
  refine (unhide H0).mono ?_
  rintro e w1 ⟨t, rfl, T1⟩
  clear H0
  go_wp2_with fail
  refine (newm_P (unhide T1)).mono ?_
  rintro e w2 ⟨rfl, P2⟩
  generalize w1.heap.size = m at *
  clear T1
  go_wp2_with fail
  refine (unhide HWi w2).mono ?_
  rintro e w3 ⟨⟨r, hr0, hr1, rfl⟩, hw3⟩
  rw [hw3]
  clear hw3 HWi
  obtain ⟨N, rfl⟩ : ∃ N : Nat, r = (N : Int) := ⟨r.toNat, by omega⟩
  have hN : N ≤ 50 := by omega
  clear hr0 hr1
  go_wp2_with fail
  refine (make_P (unhide P2) (by omega) (bs [101, 110, 100]) 1 493 (bs []) (by decide) 2 0 TE (by kernel_rfl) (by kernel_rfl) rfl).mono ?_
  rintro e w4 ⟨rfl, P4⟩
  clear P2
  go_wp2_with fail
  go_loopw [8, 9] (fun s8 s9 wr => ∃ (i : Nat) (T : Tr) (L : Bytes), i ≤ N ∧ s9 = I (i : Int) ∧ s8 = .string (bs L) ∧ L.length ≤ 3 ∧ Hid (Pw w wr t m T (3 + 2 * i) 0 ∧ LP T i ∧ L = nmE i)) (fun _ s9 _ => N - (intOf s9).toNat)
  case atStart => exact ⟨0, TE, [101, 110, 100], by omega, rfl, rfl, by decide, hide ⟨unhide P4, LP.zero, rfl⟩⟩
  case round =>
    clear P4
    obtain ⟨i, T, L, hi, rfl, rfl, hL, HH⟩ := hrel
    by_cases hin : i < N
    · have i1 : (i : Int) < (N : Int) := by omega
      have i2 : (i : Int) < 50 := by omega
      have i0 : (0 : Int) ≤ (i : Int) := by omega
      obtain ⟨c, hc⟩ : ∃ c : UInt8, c = (65 + i).toUInt8 := ⟨_, rfl⟩
      have henc : Utf8.encode (65 + (i : Int)) = ⟨#[c]⟩ := by rw [hc]; exact enc_nm i (by omega)
      have Hc := hide hc
      clear hc
      go_wp2_with fail
      obtain ⟨P, hLP, hLn⟩ := unhide HH
      have hap : (⟨#[108]⟩ ++ ⟨#[c]⟩ : ByteArray) = bs (nmE (i + 1)) := by rw [app1, unhide Hc]; rfl
      rw [hap]
      have hl3 := (nm_facts ⟨i + 1, by omega⟩).2.2.2.2.2.1
      simp only [] at hl3
      have hL' : L = nmE i := hLn
      have hmE : T.makeE 1 (bs (nmE (i + 1))) 3 (bs L) = 0 := by rw [hL']; exact hLP.makeE (by omega)
      have hmN : T.makeN 1 (bs (nmE (i + 1))) 3 (bs L) = (i : Int) + 3 := by
        rw [Tr.makeN, if_pos hmE, hLP.md]
        omega
      have hnx : LP (T.make 1 (bs (nmE (i + 1))) 3 0 0 0 (bs L)) (i + 1) := by rw [hL']; exact hLP.next P.q.f.k (by omega)
      have HNx := hide hnx
      have HL2 := hide (rfl : nmE (i + 1) = nmE (i + 1))
      refine (make_P P (by omega) (bs (nmE (i + 1))) 3 0 (bs L) (by simp [ByteArray.size]; omega) ((i : Int) + 3) 0 _ hmN hmE rfl).mono ?_
      rintro e w5 ⟨rfl, P5⟩
      clear P hLP hLn hap hL' hmE hmN hnx HH henc
      obtain ⟨L2, hL2⟩ : ∃ L2, L2 = nmE (i + 1) := ⟨_, rfl⟩
      rw [← hL2] at P5 HNx hl3 ⊢
      have HL3 := hide hL2
      clear hL2 HL2
      go_wp2_with fail
      exact ⟨⟨i + 1, _, L2, by omega, rfl, rfl, hl3, hide ⟨by have := unhide P5; rw [show 3 + 2 * (i + 1) = 3 + 2 * i + 2 by omega]; exact this, unhide HNx, unhide HL3⟩⟩, by simp [intOf]; omega⟩
    · obtain rfl : i = N := by omega
      have z : ¬ ((i : Int) < (i : Int)) := by omega
      obtain ⟨P, hLP, hLn⟩ := unhide HH
      have hwalk := hLP.walk hN sl
      rw [← hLn] at hwalk
      have HP := hide P
      have HW := hide hwalk
      clear P hLP hLn hwalk HH
      cases sl with
      | false =>
        have hp : (⟨#[47]⟩ ++ bs L : ByteArray) = bs ([47] ++ L ++ []) := by
          have e := app_bs [47] L
          rw [List.append_nil]; exact e
        have Hp := hide hp
        clear hp
        obtain ⟨path, hpath⟩ : ∃ path, path = [47] ++ L ++ [] := ⟨_, rfl⟩
        have hw := unhide HW
        simp only [Bool.false_eq_true, if_false] at hw
        rw [← hpath] at hw Hp
        have Hw := hide hw
        clear hw HW hpath
        go_wp2_with fail
        rw [unhide Hp]
        clear Hp
        refine (unhide HT wr).mono ?_
        rintro e w5 ⟨rfl, hB5⟩
        have P5 := hide ((unhide HP).below hB5)
        clear hB5 HP
        go_wp2_with fail
        refine (unhide HT w5).mono ?_
        rintro e w6 ⟨rfl, hB6⟩
        have P6 := hide ((unhide P5).below hB6)
        clear hB6 P5
        by_cases h40 : i ≤ 40
        · have hw := unhide Hw
          rw [if_pos h40] at hw
          have Hw2 := hide hw
          clear hw Hw
          go_wp2_with fail
          refine (walk_P (unhide P6) (by omega) path (unhide Hw2)).mono ?_
          rintro e w7 ⟨rfl, hB7⟩
          simp only []
          obtain ⟨w8, hw8, g8, hB8⟩ : ∃ w8, w7.alloc (.cells #[I 0, I 1, .string (bs [101, 110, 100]), I 0, I 2, .bool true, .bool false] 36) = w8 ∧ w8.heap[w7.heap.size]? = some (.cells #[I 0, I 1, .string (bs [101, 110, 100]), I 0, I 2, .bool true, .bool false] 36) ∧ Below w7.heap.size w7 w8 := ⟨_, rfl, heap_alloc_new _ _, (Below.refl _ _).alloc (Nat.le_refl _) _⟩
          have P8 := hide (((unhide P6).below (unhide hB7)).below hB8)
          obtain ⟨x0, x1, x2, x3, x4, x5, x6, -⟩ := cells7 g8
          have HW8 := hide hw8
          have n40 : ¬ (40 : Int) < (i : Int) := by omega
          clear hB7 hB8 g8 P6 hw8
          go_wp2_with fail
          rw [unhide HW8]
          clear HW8
          go_wp2_with fail
          refine (unhide HT w8).mono ?_
          rintro e w9 ⟨rfl, hB9⟩
          have P9 := hide ((unhide P8).below hB9)
          clear hB9 P8
          go_wp2_with fail
          refine (unhide HT w9).mono ?_
          rintro e wa ⟨rfl, hBa⟩
          have Pa' := hide ((unhide P9).below hBa)
          clear hBa P9
          go_wp2_with fail
          refine (steps_P (unhide Pa') (by omega) path (unhide Hw2)).mono ?_
          rintro e wb ⟨rfl, hBb⟩
          have Pb := hide ((unhide Pa').below (unhide hBb))
          clear hBb Pa'
          have e3 : (((i + 1 : Nat) : Int)) = (i : Int) + 1 := by omega
          rw [e3]
          clear e3
          go_wp2_with fail
          refine (unhide HK wb).mono ?_
          rintro e wd ⟨rfl, hBd⟩
          have Pd := hide ((unhide Pb).below hBd)
          clear hBd Pb
          go_wp2_with fail
          go_ret
          exact ⟨rfl, (unhide Pd).be⟩
        · have hw := unhide Hw
          rw [if_neg h40] at hw
          have Hw2 := hide hw
          clear hw Hw
          go_wp2_with fail
          refine (walk_P (unhide P6) (by omega) path (unhide Hw2)).mono ?_
          rintro e w7 ⟨rfl, hB7⟩
          simp only [Fd.none]
          obtain ⟨w8, hw8, g8, hB8⟩ : ∃ w8, w7.alloc (.cells #[I 0, I 0, .string (bs []), I 0, I 0, .bool false, .bool false] 36) = w8 ∧ w8.heap[w7.heap.size]? = some (.cells #[I 0, I 0, .string (bs []), I 0, I 0, .bool false, .bool false] 36) ∧ Below w7.heap.size w7 w8 := ⟨_, rfl, heap_alloc_new _ _, (Below.refl _ _).alloc (Nat.le_refl _) _⟩
          have P8 := hide (((unhide P6).below (unhide hB7)).below hB8)
          obtain ⟨x0, x1, x2, x3, x4, x5, x6, -⟩ := cells7 g8
          have HW8 := hide hw8
          have n40 : (40 : Int) < (i : Int) := by omega
          clear hB7 hB8 g8 P6 hw8
          go_wp2_with fail
          rw [unhide HW8]
          clear HW8
          go_wp2_with fail
          refine (unhide HK w8).mono ?_
          rintro e wd ⟨rfl, hBd⟩
          have Pd := hide ((unhide P8).below hBd)
          clear hBd P8
          go_wp2_with fail
          go_ret
          exact ⟨rfl, (unhide Pd).be⟩
      | true =>
        have hp : (⟨#[47]⟩ ++ bs L ++ ⟨#[47]⟩ : ByteArray) = bs ([47] ++ L ++ [47]) := by
          have e := app_bs [47] L; have e2 := app_bs ([47] ++ L) [47]
          rw [← e2, ← e]
        have Hp := hide hp
        clear hp
        obtain ⟨path, hpath⟩ : ∃ path, path = [47] ++ L ++ [47] := ⟨_, rfl⟩
        have hw := unhide HW
        simp only [if_true] at hw
        rw [← hpath] at hw Hp
        have Hw := hide hw
        clear hw HW hpath
        go_wp2_with fail
        rw [unhide Hp]
        clear Hp
        refine (unhide HT wr).mono ?_
        rintro e w5 ⟨rfl, hB5⟩
        have P5 := hide ((unhide HP).below hB5)
        clear hB5 HP
        go_wp2_with fail
        refine (unhide HT w5).mono ?_
        rintro e w6 ⟨rfl, hB6⟩
        have P6 := hide ((unhide P5).below hB6)
        clear hB6 P5
        by_cases h40 : i ≤ 40
        · have hw := unhide Hw
          rw [if_pos h40] at hw
          have Hw2 := hide hw
          clear hw Hw
          go_wp2_with fail
          refine (walk_P (unhide P6) (by omega) path (unhide Hw2)).mono ?_
          rintro e w7 ⟨rfl, hB7⟩
          simp only []
          obtain ⟨w8, hw8, g8, hB8⟩ : ∃ w8, w7.alloc (.cells #[I 0, I 1, .string (bs [101, 110, 100]), I 0, I 2, .bool true, .bool true] 36) = w8 ∧ w8.heap[w7.heap.size]? = some (.cells #[I 0, I 1, .string (bs [101, 110, 100]), I 0, I 2, .bool true, .bool true] 36) ∧ Below w7.heap.size w7 w8 := ⟨_, rfl, heap_alloc_new _ _, (Below.refl _ _).alloc (Nat.le_refl _) _⟩
          have P8 := hide (((unhide P6).below (unhide hB7)).below hB8)
          obtain ⟨x0, x1, x2, x3, x4, x5, x6, -⟩ := cells7 g8
          have HW8 := hide hw8
          have n40 : ¬ (40 : Int) < (i : Int) := by omega
          clear hB7 hB8 g8 P6 hw8
          go_wp2_with fail
          rw [unhide HW8]
          clear HW8
          go_wp2_with fail
          refine (unhide HT w8).mono ?_
          rintro e w9 ⟨rfl, hB9⟩
          have P9 := hide ((unhide P8).below hB9)
          clear hB9 P8
          go_wp2_with fail
          refine (unhide HT w9).mono ?_
          rintro e wa ⟨rfl, hBa⟩
          have Pa' := hide ((unhide P9).below hBa)
          clear hBa P9
          go_wp2_with fail
          refine (steps_P (unhide Pa') (by omega) path (unhide Hw2)).mono ?_
          rintro e wb ⟨rfl, hBb⟩
          have Pb := hide ((unhide Pa').below (unhide hBb))
          clear hBb Pa'
          have e3 : (((i + 1 : Nat) : Int)) = (i : Int) + 1 := by omega
          rw [e3]
          clear e3
          go_wp2_with fail
          refine (unhide HK wb).mono ?_
          rintro e wd ⟨rfl, hBd⟩
          have Pd := hide ((unhide Pb).below hBd)
          clear hBd Pb
          go_wp2_with fail
          go_ret
          exact ⟨rfl, (unhide Pd).be⟩
        · have hw := unhide Hw
          rw [if_neg h40] at hw
          have Hw2 := hide hw
          clear hw Hw
          go_wp2_with fail
          refine (walk_P (unhide P6) (by omega) path (unhide Hw2)).mono ?_
          rintro e w7 ⟨rfl, hB7⟩
          simp only [Fd.none]
          obtain ⟨w8, hw8, g8, hB8⟩ : ∃ w8, w7.alloc (.cells #[I 0, I 0, .string (bs []), I 0, I 0, .bool false, .bool false] 36) = w8 ∧ w8.heap[w7.heap.size]? = some (.cells #[I 0, I 0, .string (bs []), I 0, I 0, .bool false, .bool false] 36) ∧ Below w7.heap.size w7 w8 := ⟨_, rfl, heap_alloc_new _ _, (Below.refl _ _).alloc (Nat.le_refl _) _⟩
          have P8 := hide (((unhide P6).below (unhide hB7)).below hB8)
          obtain ⟨x0, x1, x2, x3, x4, x5, x6, -⟩ := cells7 g8
          have HW8 := hide hw8
          have n40 : (40 : Int) < (i : Int) := by omega
          clear hB7 hB8 g8 P6 hw8
          go_wp2_with fail
          rw [unhide HW8]
          clear HW8
          go_wp2_with fail
          refine (unhide HK w8).mono ?_
          rintro e wd ⟨rfl, hBd⟩
          have Pd := hide ((unhide P8).below hBd)
          clear hBd P8
          go_wp2_with fail
          go_ret
          exact ⟨rfl, (unhide Pd).be⟩
end Go.Proofs.Ythmdipfdloennaa.Wl
