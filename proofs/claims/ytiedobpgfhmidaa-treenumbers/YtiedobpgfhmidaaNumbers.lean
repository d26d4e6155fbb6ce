/-
  A closed sentence: the runs of chapter 10.
-/
import Derived.Test.YtiedobpgfhmidaaApiB
import Derived.Test.YtiedobpgfhmidaaNumA
import Derived.Test.YtiedobpgfhmidaaTexts
namespace Go.Proofs.Ytiedobpgfhmidaa
open Go.RowKit Go.Maps

theorem three (w : World) : ∀ i (x : ByteArray), ([sd, se, sl] : List ByteArray)[i]? = some x → (w.alloc (.cells #[.string sd, .string se, .string sl] 9)).cell? ⟨w.heap.size, 0 + i, none⟩ = some (.string x) := fun i x h => by
  rw [Nat.zero_add, cell_of (heap_alloc_new w _)]
  match i, h with
  | 0, h => simp at h; subst h; rfl
  | 1, h => simp at h; subst h; rfl
  | 2, h => simp at h; subst h; rfl
set_option maxRecDepth 100000 in
set_option maxHeartbeats 4000000 in
theorem numbers_walk (w : World) : Calls Try.prog 3 #[] w fun e w' => e = .returned (.bool true) ∧ Below w.heap.size w w' := by
  obtain ⟨t1, t2, t3, t4, FA, FB, FC, FD, FE, FF, FG, FH, FI, FJ, FK, FL, FM, FN, FO⟩ := num_facts
  have HA := hide FA
  have HB := hide FB
  have HC := hide FC
  have HD := hide FD
  have HE := hide FE
  have HF := hide FF
  have HG := hide FG
  have HH := hide FH
  have HI := hide FI
  have HJ := hide FJ
  have HK := hide FK
  have HL := hide FL
  have HM := hide FM
  have HN := hide FN
  have HO := hide FO
  clear FA FB FC FD FE FF FG FH FI FJ FK FL FM FN FO
  have hw1 : Hid ((kl 1).wf = true) := hide (by decide)
  have hw2 : Hid ((kl 2).wf = true) := hide (by decide)
  have hw3 : Hid ((kl 3).wf = true) := hide (by decide)
  have hw4 : Hid ((kl 4).wf = true) := hide (by decide)
  have HX1 := hide (new_bad' 0 0 (by omega))
  have HX2 := hide (new_bad' 1 257 (by omega))
  have HX3 := hide (new_Q 64 4 (by omega) (by omega))
  have HKN := hide known_any
  go_enter Try.func3, Try.ntmps3
  go_wp2_with fail
  refine (unhide HX1 _).mono ?_
  rintro e w1 ⟨rfl, b1⟩
  have B1 := hide b1
  clear b1
  go_wp2_with fail
  refine (unhide HX2 _).mono ?_
  rintro e w2 ⟨rfl, b2⟩
  have B2 := hide ((unhide B1).trans (b2.mono (unhide B1).size))
  clear b2 B1
  go_wp2_with fail
  refine (unhide HX3 _).mono ?_
  rintro e w3 ⟨t, rfl, T3, b3⟩
  have hle := hide (unhide B2).size
  have B3 := hide ((unhide B2).trans ((unhide b3).mono (unhide B2).size))
  clear b3 HX1 HX2 HX3
  go_wp2_with fail
  refine (make_Q (unhide T3) (by omega) (unhide hw1) sd 0 1 8191 0 0 0 0 s0 (by decide) 2 0 t1 (unhide HA).1 (unhide HA).2.1 (unhide HA).2.2).mono ?_
  rintro e w4 ⟨rfl, T4, X4⟩
  have B4 := hide ((unhide X4).fst (unhide B3) (unhide hle))
  clear X4 B3 T3
  go_wp2_with fail
  refine (make_Q (unhide T4) (by omega) (unhide hw2) sf 0 2 420 3 4 0 0 s0 (by decide) 3 0 t2 (unhide HB).1 (unhide HB).2.1 (unhide HB).2.2).mono ?_
  rintro e w5 ⟨rfl, T5, X5⟩
  have B5 := hide ((unhide X5).fst (unhide B4) (unhide hle))
  clear X5 B4 T4
  go_wp2_with fail
  refine (make_Q (unhide T5) (by omega) (unhide hw1) sl 0 3 0 0 0 0 0 sdf (by decide) 4 0 t3 (unhide HC).1 (unhide HC).2.1 (unhide HC).2.2).mono ?_
  rintro e w6 ⟨rfl, T6, X6⟩
  have B6 := hide ((unhide X6).fst (unhide B5) (unhide hle))
  clear X6 B5 T5
  go_wp2_with fail
  refine (make_Q (unhide T6) (by omega) (unhide hw1) sx 0 2 0 0 0 0 0 stext (by decide) 0 1 t3 (unhide HD).1 (unhide HD).2.1 (unhide HD).2.2).mono ?_
  rintro e w7 ⟨rfl, T7, X7⟩
  have B7 := hide ((unhide X7).fst (unhide B6) (unhide hle))
  clear X7 B6 T6
  go_wp2_with fail
  refine (make_Q (unhide T7) (by omega) (unhide hw1) sdot 0 2 0 0 0 0 0 s0 (by decide) 0 1 t3 (unhide HE).1 (unhide HE).2.1 (unhide HE).2.2).mono ?_
  rintro e w8 ⟨rfl, T8, X8⟩
  have B8 := hide ((unhide X8).fst (unhide B7) (unhide hle))
  clear X8 B7 T7
  go_wp2_with fail
  refine (join_Q (unhide T8) (by omega) (unhide hw1) (unhide hw2) se 1 t3 (unhide HF).1 (unhide HF).2).mono ?_
  rintro e w9 ⟨rfl, T9, X9⟩
  have B9 := hide ((unhide X9).fst (unhide B8) (unhide hle))
  clear X9 B8 T8
  go_wp2_with fail
  refine (join_Q (unhide T9) (by omega) (unhide hw1) (unhide hw3) se 0 t4 (unhide HG).1 (unhide HG).2).mono ?_
  rintro e w10 ⟨rfl, T10, X10⟩
  have B10 := hide ((unhide X10).fst (unhide B9) (unhide hle))
  clear X10 B9 T9
  go_wp2_with fail
  refine (move_Q (unhide T10) (by omega) (unhide hw1) (unhide hw2) sd sx (unhide HH).1 39 t4 (unhide HH).2.1 (unhide HH).2.2).mono ?_
  rintro e w11 ⟨rfl, T11, X11⟩
  have B11 := hide ((unhide X11).fst (unhide B10) (unhide hle))
  clear X11 B10 T10
  go_wp2_with fail
  refine (move_Q (unhide T11) (by omega) (unhide hw1) (unhide hw2) se sf (unhide HH).1 0 t4 (unhide HI).1 (unhide HI).2).mono ?_
  rintro e w12 ⟨rfl, T12, X12⟩
  have B12 := hide ((unhide X12).fst (unhide B11) (unhide hle))
  clear X12 B11 T11
  go_wp2_with fail
  refine (part_Q (unhide T12) (by omega) (unhide hw1) sd 47 t4 (unhide HJ).1 (unhide HJ).2).mono ?_
  rintro e w13 ⟨rfl, T13, X13⟩
  have B13 := hide ((unhide X13).fst (unhide B12) (unhide hle))
  clear X13 B12 T12
  go_wp2_with fail
  refine (move_Q (unhide T13) (by omega) (unhide hw1) (unhide hw1) sl sd (unhide HK).1 38 t4 (unhide HK).2.1 (unhide HK).2.2).mono ?_
  rintro e w14 ⟨rfl, T14, X14⟩
  have B14 := hide ((unhide X14).fst (unhide B13) (unhide hle))
  clear X14 B13 T13
  go_wp2_with fail
  refine (loose_Q (unhide T14) (by omega) (unhide hw3) 16 t4 (unhide HL).1 (unhide HL).2).mono ?_
  rintro e w15 ⟨rfl, T15, X15⟩
  have B15 := hide ((unhide X15).fst (unhide B14) (unhide hle))
  clear X15 B14 T14
  have T15a := T15
  have B15a := B15
  clear T15 B15
  go_wp2_with fail
  refine (stat_Q (unhide T15a) (by omega) (unhide hw3) (stV 3 2 420 3 4 2 0) true (unhide HM).1 (unhide HN).1).mono ?_
  rintro e w16 ⟨rfl, T16, X16⟩
  have B16 := hide ((unhide B15a).trans ((unhide X16).mono (unhide B15a).size))
  clear X16 B15a T15a
  go_wp2_with fail
  obtain ⟨V16, hV16⟩ : ∃ V, w16.alloc (Obj.cells #[Value.int IntKind.i64 3, Value.int IntKind.i64 2, Value.int IntKind.i64 420, Value.int IntKind.i64 3, Value.int IntKind.i64 4, Value.int IntKind.i64 2, Value.int IntKind.i64 0] 29) = V := ⟨_, rfl⟩
  have X16 : Below w16.heap.size w16 V16 := by rw [← hV16]; exact (Below.refl _ _).alloc (Nat.le_refl _) _
  have T16a := hide ((unhide T16).below X16)
  have B16a := hide ((unhide B16).trans (X16.mono (unhide B16).size))
  obtain ⟨p16, hp16⟩ : ∃ p, w16.heap.size = p := ⟨_, rfl⟩
  have K316a : Hid (V16.heap[p16]? = some (.cells #[Value.int IntKind.i64 3, Value.int IntKind.i64 2, Value.int IntKind.i64 420, Value.int IntKind.i64 3, Value.int IntKind.i64 4, Value.int IntKind.i64 2, Value.int IntKind.i64 0] 29)) := hide (by rw [← hV16, ← hp16]; exact heap_alloc_new w16 _)
  rw [hV16, hp16]
  clear X16 hV16 hp16 T16 B16
  go_wp2_with fail
  refine (stat_Q (unhide T16a) (by omega) (unhide hw1) (stV 1 1 493 0 0 3 3) true (unhide HM).2.1 (unhide HN).2.1).mono ?_
  rintro e w17 ⟨rfl, T17, X17⟩
  have B17 := hide ((unhide B16a).trans ((unhide X17).mono (unhide B16a).size))
  have K317 := hide (((unhide X17).block _ (lt_of_heap (unhide K316a))).trans (unhide K316a))
  clear X17 B16a T16a
  clear K316a
  go_wp2_with fail
  obtain ⟨V17, hV17⟩ : ∃ V, w17.alloc (Obj.cells #[Value.int IntKind.i64 1, Value.int IntKind.i64 1, Value.int IntKind.i64 493, Value.int IntKind.i64 0, Value.int IntKind.i64 0, Value.int IntKind.i64 3, Value.int IntKind.i64 3] 29) = V := ⟨_, rfl⟩
  have X17 : Below w17.heap.size w17 V17 := by rw [← hV17]; exact (Below.refl _ _).alloc (Nat.le_refl _) _
  have T17a := hide ((unhide T17).below X17)
  have B17a := hide ((unhide B17).trans (X17.mono (unhide B17).size))
  obtain ⟨p17, hp17⟩ : ∃ p, w17.heap.size = p := ⟨_, rfl⟩
  have K117a : Hid (V17.heap[p17]? = some (.cells #[Value.int IntKind.i64 1, Value.int IntKind.i64 1, Value.int IntKind.i64 493, Value.int IntKind.i64 0, Value.int IntKind.i64 0, Value.int IntKind.i64 3, Value.int IntKind.i64 3] 29)) := hide (by rw [← hV17, ← hp17]; exact heap_alloc_new w17 _)
  have K317a := hide ((X17.block _ (lt_of_heap (unhide K317))).trans (unhide K317))
  clear K317
  rw [hV17, hp17]
  clear X17 hV17 hp17 T17 B17
  go_wp2_with fail
  refine (stat_Q (unhide T17a) (by omega) (unhide hw4) (stV 4 3 0 0 0 1 3) true (unhide HM).2.2.1 (unhide HN).2.2.1).mono ?_
  rintro e w18 ⟨rfl, T18, X18⟩
  have B18 := hide ((unhide B17a).trans ((unhide X18).mono (unhide B17a).size))
  have K318 := hide (((unhide X18).block _ (lt_of_heap (unhide K317a))).trans (unhide K317a))
  have K118 := hide (((unhide X18).block _ (lt_of_heap (unhide K117a))).trans (unhide K117a))
  clear X18 B17a T17a
  clear K317a
  clear K117a
  go_wp2_with fail
  obtain ⟨V18, hV18⟩ : ∃ V, w18.alloc (Obj.cells #[Value.int IntKind.i64 4, Value.int IntKind.i64 3, Value.int IntKind.i64 0, Value.int IntKind.i64 0, Value.int IntKind.i64 0, Value.int IntKind.i64 1, Value.int IntKind.i64 3] 29) = V := ⟨_, rfl⟩
  have X18 : Below w18.heap.size w18 V18 := by rw [← hV18]; exact (Below.refl _ _).alloc (Nat.le_refl _) _
  have T18a := hide ((unhide T18).below X18)
  have B18a := hide ((unhide B18).trans (X18.mono (unhide B18).size))
  obtain ⟨p18, hp18⟩ : ∃ p, w18.heap.size = p := ⟨_, rfl⟩
  have K418a : Hid (V18.heap[p18]? = some (.cells #[Value.int IntKind.i64 4, Value.int IntKind.i64 3, Value.int IntKind.i64 0, Value.int IntKind.i64 0, Value.int IntKind.i64 0, Value.int IntKind.i64 1, Value.int IntKind.i64 3] 29)) := hide (by rw [← hV18, ← hp18]; exact heap_alloc_new w18 _)
  have K318a := hide ((X18.block _ (lt_of_heap (unhide K318))).trans (unhide K318))
  clear K318
  have K118a := hide ((X18.block _ (lt_of_heap (unhide K118))).trans (unhide K118))
  clear K118
  rw [hV18, hp18]
  clear X18 hV18 hp18 T18 B18
  go_wp2_with fail
  refine (stat_Q (unhide T18a) (by omega) (unhide hw2) (stV 2 1 4095 0 0 2 1) true (unhide HM).2.2.2 (unhide HN).2.2.2).mono ?_
  rintro e w19 ⟨rfl, T19, X19⟩
  have B19 := hide ((unhide B18a).trans ((unhide X19).mono (unhide B18a).size))
  have K319 := hide (((unhide X19).block _ (lt_of_heap (unhide K318a))).trans (unhide K318a))
  have K119 := hide (((unhide X19).block _ (lt_of_heap (unhide K118a))).trans (unhide K118a))
  have K419 := hide (((unhide X19).block _ (lt_of_heap (unhide K418a))).trans (unhide K418a))
  clear X19 B18a T18a
  clear K318a
  clear K118a
  clear K418a
  obtain ⟨V19, hV19⟩ : ∃ V, w19.alloc (Obj.cells #[Value.int IntKind.i64 2, Value.int IntKind.i64 1, Value.int IntKind.i64 4095, Value.int IntKind.i64 0, Value.int IntKind.i64 0, Value.int IntKind.i64 2, Value.int IntKind.i64 1] 29) = V := ⟨_, rfl⟩
  have X19 : Below w19.heap.size w19 V19 := by rw [← hV19]; exact (Below.refl _ _).alloc (Nat.le_refl _) _
  have T19a := hide ((unhide T19).below X19)
  have B19a := hide ((unhide B19).trans (X19.mono (unhide B19).size))
  obtain ⟨p19, hp19⟩ : ∃ p, w19.heap.size = p := ⟨_, rfl⟩
  have K219a : Hid (V19.heap[p19]? = some (.cells #[Value.int IntKind.i64 2, Value.int IntKind.i64 1, Value.int IntKind.i64 4095, Value.int IntKind.i64 0, Value.int IntKind.i64 0, Value.int IntKind.i64 2, Value.int IntKind.i64 1] 29)) := hide (by rw [← hV19, ← hp19]; exact heap_alloc_new w19 _)
  have K319a := hide ((X19.block _ (lt_of_heap (unhide K319))).trans (unhide K319))
  clear K319
  have K119a := hide ((X19.block _ (lt_of_heap (unhide K119))).trans (unhide K119))
  clear K119
  have K419a := hide ((X19.block _ (lt_of_heap (unhide K419))).trans (unhide K419))
  clear K419
  clear X19 T19 B19
  obtain ⟨q30, q31, q32, q33, q34, q35, q36, -⟩ := cells7 (unhide K319a)
  clear K319a
  obtain ⟨q10, q11, q12, q13, q14, q15, q16, -⟩ := cells7 (unhide K119a)
  clear K119a
  obtain ⟨q40, q41, q42, q43, q44, q45, q46, -⟩ := cells7 (unhide K419a)
  clear K419a
  obtain ⟨q20, q21, q22, q23, q24, q25, q26, -⟩ := cells7 (unhide K219a)
  clear K219a
  go_wp2_with fail
  refine (text_Q (unhide T19a) (unhide hw4) sdf (unhide HO).2.2.2.1).mono ?_
  rintro e w20 ⟨rfl, T20, X20⟩
  have B20 := hide ((unhide B19a).trans ((unhide X20).mono (unhide B19a).size))
  clear X20 B19a T19a hV19 hp19 q30 q31 q32 q33 q34 q35 q36 q10 q11 q12 q13 q14 q15 q16 q40 q41 q42 q43 q44 q45 q46 q20 q21 q22 q23 q24 q25 q26 HA HB HC HD HE HF HG HH HI HJ HK HL HM HN
  go_wp2_with fail
  refine (up_Q (unhide T20) (unhide hw2) 1 (unhide HO).2.1).mono ?_
  rintro e w21 ⟨rfl, T21, X21⟩
  have B21 := hide ((unhide B20).trans ((unhide X21).mono (unhide B20).size))
  clear X21 B20 T20
  go_wp2_with fail
  refine (up_Q (unhide T21) (unhide hw3) 0 (unhide HO).2.2.1).mono ?_
  rintro e w22 ⟨rfl, T22, X22⟩
  have B22 := hide ((unhide B21).trans ((unhide X22).mono (unhide B21).size))
  clear X22 B21 T21
  go_wp2_with fail
  refine (names_Q (unhide T22) (by omega) (unhide hw1)).mono ?_
  rintro e w23 ⟨v, rfl, R23, T23, X23⟩
  have B23 := hide ((unhide B22).trans ((unhide X23).mono (unhide B22).size))
  have hr := unhide R23
  rw [(unhide HO).2.2.2.2] at hr
  obtain ⟨g, cap, cur, rfl, hg1, hg2, hg3, hg4, hg5, hcs⟩ := own_open hr (by decide)
  have HTX := hide (texts_same (w23.alloc (.cells #[.string sd, .string se, .string sl] 9)) g 0 cap w23.heap.size 0 3 3 [sd, se, sl] rfl (by omega) (fun i x hx => by
    rw [Nat.zero_add, cell_same (Below.heap_alloc w23 _ _ (lt_of_heap hg2)) i]
    exact hcs i (.string x) (by simp only [strV, List.getElem?_map, hx]; rfl)) (three w23))
  have T23a := hide ((unhide T23).below ((Below.refl _ w23).alloc (Nat.le_refl _) (.cells #[.string sd, .string se, .string sl] 9)))
  have B23a := hide ((unhide B23).alloc (unhide B23).size (.cells #[.string sd, .string se, .string sl] 9))
  clear X23 B22 T22 R23 hr hg1 hg2 hg3 hg4 hg5 hcs T23 B23
  go_wp2_with fail
  refine (unhide HTX).mono ?_
  rintro e w24 ⟨rfl, kk, rfl⟩
  have T24 := hide ((unhide T23a).below (below_n _ kk))
  have B24 := hide (below_dn (unhide B23a) kk)
  clear HTX T23a B23a
  go_wp2_with fail
  refine (left_Q (unhide T24) (by omega) 60 (unhide HO).1).mono ?_
  rintro e w25 ⟨rfl, T25, X25⟩
  have B25 := hide ((unhide B24).trans ((unhide X25).mono (unhide B24).size))
  clear X25 B24 T24 T25
  go_wp2_with fail
  refine (unhide HKN _).mono ?_
  rintro e w26 ⟨rfl, b26⟩
  have B26 := hide ((unhide B25).trans (b26.mono (unhide B25).size))
  clear b26 B25
  go_wp2_with fail
  go_ret
  exact ⟨rfl, unhide B26⟩
end Go.Proofs.Ytiedobpgfhmidaa
