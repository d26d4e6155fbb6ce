/-
  What is held lives without a name, and its room is free when it is held no more.
-/
import Derived.Test.YtiedobpgfhmidaaHoldsA
import Derived.Lib.SlBytesConst
namespace Go.Proofs.Ytiedobpgfhmidaa
open Go.RowKit Go.Maps

/-- What lies while the node is held; while it is let loose. -/
structure HR (w W : World) (t : Nat) (kd : Int) (j : Nat) : Prop where
  t : ∃ T B, B ≤ 50 ∧ Tq w.heap.size 8 W t T (B + j) ∧ R1 T kd j
  b : Below w.heap.size w W
structure HL (w W : World) (t : Nat) (j : Nat) : Prop where
  t : ∃ T, Tq w.heap.size 8 W t T 100 ∧ R2 T j
  b : Below w.heap.size w W
section
variable {w W : World} {t : Nat} {kd : Int} {j : Nat}
theorem HR.hold (h : HR w W t kd j) (hj : j ≤ 6) : Calls Try.prog 22 #[P0 t, I 2] W fun e W' => e = .returned (I 0) ∧ Hid (HR w W' t kd (j + 1)) := by
  obtain ⟨⟨T, B, hB, h1, h2⟩, h3⟩ := h
  refine (hold_Q h1 (by omega) (by decide) 0 _ h2.hold.1 rfl).mono ?_
  rintro e W' ⟨rfl, h4, h5⟩
  exact ⟨rfl, ⟨_, B, hB, unhide h4, h2.hold.2⟩, (unhide h5).fst h3 (Nat.le_refl _)⟩
theorem HR.part (h : HR w W t kd j) (hj : j ≤ 6) : Calls Try.prog 11 #[P0 t, I 1, .string tX] W fun e W' => e = .returned (I 0) ∧ Hid (HL w W' t j) := by
  obtain ⟨⟨T, B, hB, h1, h2⟩, h3⟩ := h
  refine (part_Q h1 (by omega) (by decide) tX 0 _ h2.part.1 rfl).mono ?_
  rintro e W' ⟨rfl, h4, h5⟩
  exact ⟨rfl, ⟨_, (unhide h4).mono (by omega), h2.part.2⟩, (unhide h5).fst h3 (Nat.le_refl _)⟩
theorem HR.write (h : HR w W t kd j) (hj : j ≤ 6) (ad : Option Addr) (m cap : Nat) (g : Nat → Int) (hi : In W ad m cap g) : Calls Try.prog 25 #[P0 t, I 2, I 0, .slice ad m cap] W fun e W' => ∃ y, e = .returned (I y) ∧ Hid (HR w W' t kd j) := by
  obtain ⟨⟨T, B, hB, h1, h2⟩, h3⟩ := h
  refine (twrite_Q h1 (by omega) (by decide) 0 (by decide) ad m cap g hi).mono ?_
  rintro e W' ⟨rfl, h4, h5⟩
  exact ⟨_, rfl, ⟨_, B, hB, unhide h4, h2.pool _⟩, (unhide h5).fst h3 (Nat.le_refl _)⟩
theorem HL.loose (h : HL w W t j) : Calls Try.prog 12 #[P0 t, I 2] W fun e W' => e = .returned (I (if 0 < j then 0 else 1)) ∧ Hid (HL w W' t (j - 1)) := by
  obtain ⟨⟨T, h1, h2⟩, h3⟩ := h
  have hE : T.looseE 2 = if 0 < j then 0 else 1 := by
    by_cases hj : 0 < j
    · rw [if_pos hj]; exact h2.loose.1 hj
    · rw [if_neg hj]; exact h2.loose.2.1 (by omega)
  refine (loose_Q h1 (by omega) (by decide) _ _ hE rfl).mono ?_
  rintro e W' ⟨rfl, h4, h5⟩
  exact ⟨rfl, ⟨_, unhide h4, h2.loose.2.2⟩, (unhide h5).fst h3 (Nat.le_refl _)⟩
theorem HR.below {W' : World} (h : HR w W t kd j) (g : Below W.heap.size W W') : HR w W' t kd j := by
  obtain ⟨⟨T, B, hB, h1, h2⟩, h3⟩ := h
  exact ⟨⟨T, B, hB, h1.below g, h2⟩, h3.trans (g.mono h3.size)⟩
theorem convB (w : World) (C : Array Value) (n c : Nat) : (convert 45 45 (.slice (some ⟨w.heap.size, 0, none⟩) n c)).run Try.prog (w.alloc (.cells C 5)) = .ok (.slice (some ⟨w.heap.size, 0, none⟩) n c) (w.alloc (.cells C 5 (C.size, C.size + 1))) := Lib.run_convert_bytes_const w 45 5 C n c Try.underlying45 Try.underlying5
/-- The text of bytes. -/
def str (f : Nat → Int) (a n : Nat) : ByteArray := strOfNums ((List.range n).map fun j => f (a + j))
theorem in_list (w : World) (l : List Int) (z : Nat × Nat) : In (w.alloc (.cells (l.map U).toArray 5 z)) (some ⟨w.heap.size, 0, none⟩) l.length l.length (fun j => l.getD j 0) := fun _ => ⟨w.heap.size, 0, rfl, fun j hj => by
  rw [Nat.zero_add, cell_of (heap_alloc_new w _)]
  simp [hj], Nat.le_refl _⟩
theorem HL.below {W' : World} (h : HL w W t j) (g : Below W.heap.size W W') : HL w W' t j := by
  obtain ⟨⟨T, h1, h2⟩, h3⟩ := h
  exact ⟨⟨T, h1.below g, h2⟩, h3.trans (g.mono h3.size)⟩
theorem HL.stat (h : HL w W t j) : Calls Try.prog 13 #[P0 t, I 2] W fun e W' => ∃ x a b c d f, e = .returned (.tuple #[stV x a b c d 0 f, .bool (decide (0 < j))]) ∧ (j = 0 → x = 0 ∧ a = 0 ∧ b = 0 ∧ c = 0 ∧ d = 0 ∧ f = 0) ∧ Hid (HL w W' t j) := by
  have h' := h
  obtain ⟨⟨T, h1, h2⟩, h3⟩ := h
  obtain ⟨f1, f2, f3, f4⟩ := h2.fin
  by_cases hj : 0 < j
  · obtain ⟨a, b, c, d, f, hv⟩ := f2 hj
    refine (stat_Q h1 (by omega) (by decide) _ _ hv f1).mono ?_
    rintro e W' ⟨rfl, h4, h5⟩
    exact ⟨2, a, b, c, d, f, rfl, fun h' => by omega, h'.below h5⟩
  · refine (stat_Q h1 (by omega) (by decide) _ _ (f3 (by omega)) f1).mono ?_
    rintro e W' ⟨rfl, h4, h5⟩
    exact ⟨0, 0, 0, 0, 0, 0, rfl, fun _ => ⟨rfl, rfl, rfl, rfl, rfl, rfl⟩, h'.below h5⟩
theorem HL.left (h : HL w W t j) : Calls Try.prog 18 #[P0 t] W fun e W' => e = .returned (I (2 - (if 0 < j then 1 else 0))) ∧ Hid (HL w W' t j) := by
  have h' := h
  obtain ⟨⟨T, h1, h2⟩, h3⟩ := h
  obtain ⟨f1, f2, f3, f4⟩ := h2.fin
  refine (left_Q h1 (by omega) (2 - (if 0 < j then 1 else 0)) (by simp only [Tr.left, h2.md.2, f4]; split <;> simp)).mono ?_
  rintro e W' ⟨rfl, h4, h5⟩
  exact ⟨rfl, h'.below h5⟩
theorem HL.live (h : HL w W t j) : Calls Try.prog 21 #[P0 t] W fun e W' => ∃ ad cap, e = .returned (.slice ad (1 + (if 0 < j then 1 else 0)) cap) ∧ Hid (HL w W' t j) := by
  have h' := h
  obtain ⟨⟨T, h1, h2⟩, h3⟩ := h
  obtain ⟨f1, f2, f3, f4⟩ := h2.fin
  refine (live_Q h1 (by omega)).mono ?_
  rintro e W' ⟨v, rfl, hr, h4, h5⟩
  obtain ⟨ad, cap, hv⟩ := own_form (unhide hr)
  rw [T.livesI_len, f4] at hv
  exact ⟨ad, cap, by rw [hv], h'.below h5⟩
end
set_option maxRecDepth 100000 in
set_option maxHeartbeats 2000000 in
theorem holds_walk (a b c : Int) (w : World) : Calls Try.prog 6 #[.int .i64 a, .int .i64 b, .int .i64 c] w fun e w' => e = .returned (.bool true) ∧ Below w.heap.size w w' := by
  have H0 := hide (new_Q 3 8 (by omega) (by omega) w)
  have HK := hide known_any
  have hw1 : Hid ((kl 1).wf = true) := hide (by decide)
  have hw2 : Hid ((kl 2).wf = true) := hide (by decide)
  go_enter Try.func6, Try.ntmps6
  go_wp2_with fail
  refine (unhide H0).mono ?_
  rintro e w1 ⟨t, rfl, T1, B1⟩
  go_wp2_with fail
  refine (within_any a 6 _ (by omega) (by omega)).mono ?_
  rintro e w' ⟨⟨h, hh, rfl⟩, rfl⟩
  go_wp2_with fail
  refine (within_any b 8 _ (by omega) (by omega)).mono ?_
  rintro e w' ⟨⟨l, hl, rfl⟩, rfl⟩
  go_wp2_with fail
  refine (within_any c 2 _ (by omega) (by omega)).mono ?_
  rintro e w' ⟨⟨k, hk, rfl⟩, rfl⟩
  have hk3 : k = 0 ∨ k = 1 ∨ k = 2 := by omega
  rcases hk3 with rfl | rfl | rfl
  · obtain ⟨m1, m2⟩ := make_R1 (kind := 1) (by omega)
    have HM := hide m2
    have HN := hide m1
    clear m1 m2 hk
    go_wp2_with fail
    refine (make_Q (unhide T1) (by omega) (unhide hw1) tX 0 1 0 0 0 0 0 ⟨#[]⟩ (by decide) 2 0 _ (unhide HN) (make_E (kind := 1) (by omega)) rfl).mono ?_
    rintro e w2 ⟨rfl, T2, X2⟩
    have HR0 : Hid (HR w w2 t 1 0) := ⟨⟨_, 3, by omega, unhide T2, unhide HM⟩, (unhide X2).fst (unhide B1) (Nat.le_refl _)⟩
    clear T2 X2 T1 B1 HM HN H0 hw1 hw2
    go_wp2_with fail
    go_loopw [12] (fun i wr => ∃ j : Nat, j ≤ h ∧ i = .int .i64 (j : Int) ∧ Hid (HR w wr t 1 j)) (fun i _ => h - (intOf i).toNat)
    case atStart => exact ⟨0, Nat.zero_le _, rfl, HR0⟩
    case round =>
      obtain ⟨j, hj, rfl, HJ⟩ := hrel
      have hj6 : (j : Int) ≤ 6 := by omega
      by_cases hlt : j < h
      · have hlt2 : (j : Int) < (h : Int) := by omega
        go_wp2_with (go_at_call 22; refine (HR.hold (unhide HJ) (by omega)).mono ?_; rintro e w3 ⟨rfl, HJ2⟩)
        go_roundw
        case rel => exact ⟨j + 1, by omega, by go_num, HJ2⟩
        case measure => simp [intOf]; omega
      · obtain rfl : j = h := by omega
        clear hlt hj HR0
        go_wp2_with fail
        refine (HR.part (unhide HJ) (by omega)).mono ?_
        rintro e w4 ⟨rfl, HL0⟩
        have hj7 : j ≤ 6 := by omega
        go_wp2_with fail
        go_loopw [13, 14] (fun lf i wr => ∃ q m : Nat, m ≤ l ∧ q ≤ 6 ∧ lf = .int .i64 (q : Int) ∧ i = .int .i64 (m : Int) ∧ Hid (HL w wr t q)) (fun _ i _ => l - (intOf i).toNat)
        case atStart => exact ⟨j, 0, Nat.zero_le _, hj7, rfl, rfl, HL0⟩
        case round =>
          obtain ⟨q, m, hm, hq, rfl, rfl, HQ⟩ := hrel
          have hm8 : (m : Int) ≤ 8 := by omega
          have hq6 : (q : Int) ≤ 6 := by omega
          by_cases hlt : m < l
          · have hlt2 : (m : Int) < (l : Int) := by omega
            have HLO := HL.loose (unhide HQ)
            by_cases hq0 : 0 < q
            · have hq1 : (0 : Int) < (q : Int) := by omega
              rw [if_pos hq0] at HLO
              have HLH := hide HLO
              clear HLO
              go_wp2_with (go_at_call 12; refine (unhide HLH).mono ?_; rintro e w5 ⟨rfl, HQ2⟩)
              go_roundw
              case rel => exact ⟨q - 1, m + 1, by omega, by omega, by simp; omega, by go_num, HQ2⟩
              case measure => simp [intOf]; omega
            · obtain rfl : q = 0 := by omega
              rw [if_neg hq0] at HLO
              have HLH := hide HLO
              clear HLO hq0
              go_wp2_with (go_at_call 12; refine (unhide HLH).mono ?_; rintro e w5 ⟨rfl, HQ2⟩)
              go_roundw
              case rel => exact ⟨0, m + 1, by omega, by omega, rfl, by go_num, HQ2⟩
              case measure => simp [intOf]; omega
          · obtain rfl : m = l := by omega
            clear hlt hm
            have HST := hide (HL.stat (unhide HQ))
            by_cases hq0 : 0 < q
            · have hq1 : (0 : Int) < (q : Int) := by omega
              have hq2 : ¬ ((q : Int) = 0) := by omega
              simp only [hq0, decide_true] at HST
              go_wp2_with fail
              refine (unhide HST).mono ?_
              rintro e w5 ⟨x, a', b', c', d', f', rfl, _, HQ5⟩
              go_wp2_with fail
              have HQ6 := hide ((unhide HQ5).below ((Below.refl _ w5).alloc (Nat.le_refl _) (Obj.cells #[Value.int IntKind.i64 x, Value.int IntKind.i64 a', Value.int IntKind.i64 b', Value.int IntKind.i64 c', Value.int IntKind.i64 d', Value.int IntKind.i64 0, Value.int IntKind.i64 f'] 29)))
              have L1 := HL.left (unhide HQ6)
              simp only [hq0, if_true] at L1
              refine L1.mono ?_
              rintro e w6 ⟨rfl, HQ7⟩
              clear L1
              have L2 := HL.live (unhide HQ7)
              simp only [hq0, if_true] at L2
              have HL2 := hide L2
              clear L2
              go_wp2_with fail
              refine (unhide HL2).mono ?_
              rintro e w7 ⟨ad, cap, rfl, HQ8⟩
              have L3 := HL.live (unhide HQ8)
              simp only [hq0, if_true] at L3
              have HL3 := hide L3
              clear L3
              go_wp2_with fail
              refine (unhide HL3).mono ?_
              rintro e w8 ⟨ad2, cap2, rfl, HQ9⟩
              go_wp2_with fail
              refine (unhide HK _).mono ?_
              rintro e w9 ⟨rfl, hB9⟩
              have HB9 := hide hB9
              clear hB9
              go_wp2_with fail
              go_ret
              have hqe : ((q : Int) == 0) = false := by simpa using hq2
              refine ⟨?_, (unhide HQ9).b.trans ((unhide HB9).mono (unhide HQ9).b.size)⟩
              show Ending.returned (Value.bool (!((q : Int) == 0))) = _
              rw [hqe]
              rfl
            · obtain rfl : q = 0 := by omega
              have HST0 := unhide HST
              simp only [Nat.lt_irrefl, decide_false] at HST0
              have HST2 := hide HST0
              clear HST HST0 hq0
              go_wp2_with fail
              refine (unhide HST2).mono ?_
              rintro e w5 ⟨x, a', b', c', d', f', rfl, hz, HQ5⟩
              obtain ⟨rfl, rfl, rfl, rfl, rfl, rfl⟩ := hz trivial
              go_wp2_with fail
              have HQ6 := hide ((unhide HQ5).below ((Below.refl _ w5).alloc (Nat.le_refl _) (Obj.cells #[Value.int IntKind.i64 0, Value.int IntKind.i64 0, Value.int IntKind.i64 0, Value.int IntKind.i64 0, Value.int IntKind.i64 0, Value.int IntKind.i64 0, Value.int IntKind.i64 0] 29)))
              have L1 := HL.left (unhide HQ6)
              simp only [Nat.lt_irrefl, if_false] at L1
              refine L1.mono ?_
              rintro e w6 ⟨rfl, HQ7⟩
              clear L1
              have L2 := HL.live (unhide HQ7)
              simp only [Nat.lt_irrefl, if_false] at L2
              have HL2 := hide L2
              clear L2
              go_wp2_with fail
              refine (unhide HL2).mono ?_
              rintro e w7 ⟨ad, cap, rfl, HQ8⟩
              have L3 := HL.live (unhide HQ8)
              simp only [Nat.lt_irrefl, if_false] at L3
              have HL3 := hide L3
              clear L3
              go_wp2_with fail
              refine (unhide HL3).mono ?_
              rintro e w8 ⟨ad2, cap2, rfl, HQ9⟩
              go_wp2_with fail
              refine (unhide HK _).mono ?_
              rintro e w9 ⟨rfl, hB9⟩
              have HB9 := hide hB9
              clear hB9
              go_wp2_with fail
              go_ret
              exact ⟨rfl, (unhide HQ9).b.trans ((unhide HB9).mono (unhide HQ9).b.size)⟩
  · obtain ⟨m1, m2⟩ := make_R1 (kind := 2) (by omega)
    have HM := hide m2
    have HN := hide m1
    clear m1 m2 hk
    go_wp2_with fail
    refine (make_Q (unhide T1) (by omega) (unhide hw1) tX 0 2 0 0 0 0 0 ⟨#[]⟩ (by decide) 2 0 _ (unhide HN) (make_E (kind := 2) (by omega)) rfl).mono ?_
    rintro e w2 ⟨rfl, T2, X2⟩
    have HR0 : Hid (HR w w2 t 2 0) := ⟨⟨_, 3, by omega, unhide T2, unhide HM⟩, (unhide X2).fst (unhide B1) (Nat.le_refl _)⟩
    clear T2 X2 T1 B1 HM HN H0 hw1 hw2
    go_wp2_with fail
    go_loopw [12] (fun i wr => ∃ j : Nat, j ≤ h ∧ i = .int .i64 (j : Int) ∧ Hid (HR w wr t 2 j)) (fun i _ => h - (intOf i).toNat)
    case atStart => exact ⟨0, Nat.zero_le _, rfl, HR0⟩
    case round =>
      obtain ⟨j, hj, rfl, HJ⟩ := hrel
      have hj6 : (j : Int) ≤ 6 := by omega
      by_cases hlt : j < h
      · have hlt2 : (j : Int) < (h : Int) := by omega
        go_wp2_with (go_at_call 22; refine (HR.hold (unhide HJ) (by omega)).mono ?_; rintro e w3 ⟨rfl, HJ2⟩)
        go_roundw
        case rel => exact ⟨j + 1, by omega, by go_num, HJ2⟩
        case measure => simp [intOf]; omega
      · obtain rfl : j = h := by omega
        clear hlt hj HR0
        have hcv := convB wr #[U 115, U 111, U 109, U 101, U 32, U 98, U 121, U 116, U 101, U 115, U 32, U 116, U 104, U 97, U 116, U 32, U 116, U 97, U 107, U 101, U 32, U 98, U 108, U 111, U 99, U 107, U 115] 27 27
        have hin := hide (in_list wr [115, 111, 109, 101, 32, 98, 121, 116, 101, 115, 32, 116, 104, 97, 116, 32, 116, 97, 107, 101, 32, 98, 108, 111, 99, 107, 115] (27, 28))
        have HJ7 : Hid (HR w (wr.alloc (.cells ((([115, 111, 109, 101, 32, 98, 121, 116, 101, 115, 32, 116, 104, 97, 116, 32, 116, 97, 107, 101, 32, 98, 108, 111, 99, 107, 115] : List Int)).map U).toArray 5 (27, 28))) t 2 j) := (unhide HJ).below ((Below.refl _ wr).alloc (Nat.le_refl _) _)
        have HWR := hide (HR.write (unhide HJ7) (by omega) _ 27 27 _ (unhide hin))
        go_wp2_with fail
        refine (unhide HWR).mono ?_
        rintro e w3 ⟨y, rfl, HJ8⟩
        go_wp2_with fail
        refine (HR.part (unhide HJ8) (by omega)).mono ?_
        rintro e w4 ⟨rfl, HL0⟩
        have hj7 : j ≤ 6 := by omega
        go_wp2_with fail
        go_loopw [13, 14] (fun lf i wr => ∃ q m : Nat, m ≤ l ∧ q ≤ 6 ∧ lf = .int .i64 (q : Int) ∧ i = .int .i64 (m : Int) ∧ Hid (HL w wr t q)) (fun _ i _ => l - (intOf i).toNat)
        case atStart => exact ⟨j, 0, Nat.zero_le _, hj7, rfl, rfl, HL0⟩
        case round =>
          obtain ⟨q, m, hm, hq, rfl, rfl, HQ⟩ := hrel
          have hm8 : (m : Int) ≤ 8 := by omega
          have hq6 : (q : Int) ≤ 6 := by omega
          by_cases hlt : m < l
          · have hlt2 : (m : Int) < (l : Int) := by omega
            have HLO := HL.loose (unhide HQ)
            by_cases hq0 : 0 < q
            · have hq1 : (0 : Int) < (q : Int) := by omega
              rw [if_pos hq0] at HLO
              have HLH := hide HLO
              clear HLO
              go_wp2_with (go_at_call 12; refine (unhide HLH).mono ?_; rintro e w5 ⟨rfl, HQ2⟩)
              go_roundw
              case rel => exact ⟨q - 1, m + 1, by omega, by omega, by simp; omega, by go_num, HQ2⟩
              case measure => simp [intOf]; omega
            · obtain rfl : q = 0 := by omega
              rw [if_neg hq0] at HLO
              have HLH := hide HLO
              clear HLO hq0
              go_wp2_with (go_at_call 12; refine (unhide HLH).mono ?_; rintro e w5 ⟨rfl, HQ2⟩)
              go_roundw
              case rel => exact ⟨0, m + 1, by omega, by omega, rfl, by go_num, HQ2⟩
              case measure => simp [intOf]; omega
          · obtain rfl : m = l := by omega
            clear hlt hm
            have HST := hide (HL.stat (unhide HQ))
            by_cases hq0 : 0 < q
            · have hq1 : (0 : Int) < (q : Int) := by omega
              have hq2 : ¬ ((q : Int) = 0) := by omega
              simp only [hq0, decide_true] at HST
              go_wp2_with fail
              refine (unhide HST).mono ?_
              rintro e w5 ⟨x, a', b', c', d', f', rfl, _, HQ5⟩
              go_wp2_with fail
              have HQ6 := hide ((unhide HQ5).below ((Below.refl _ w5).alloc (Nat.le_refl _) (Obj.cells #[Value.int IntKind.i64 x, Value.int IntKind.i64 a', Value.int IntKind.i64 b', Value.int IntKind.i64 c', Value.int IntKind.i64 d', Value.int IntKind.i64 0, Value.int IntKind.i64 f'] 29)))
              have L1 := HL.left (unhide HQ6)
              simp only [hq0, if_true] at L1
              refine L1.mono ?_
              rintro e w6 ⟨rfl, HQ7⟩
              clear L1
              have L2 := HL.live (unhide HQ7)
              simp only [hq0, if_true] at L2
              have HL2 := hide L2
              clear L2
              go_wp2_with fail
              refine (unhide HL2).mono ?_
              rintro e w7 ⟨ad, cap, rfl, HQ8⟩
              have L3 := HL.live (unhide HQ8)
              simp only [hq0, if_true] at L3
              have HL3 := hide L3
              clear L3
              go_wp2_with fail
              refine (unhide HL3).mono ?_
              rintro e w8 ⟨ad2, cap2, rfl, HQ9⟩
              go_wp2_with fail
              refine (unhide HK _).mono ?_
              rintro e w9 ⟨rfl, hB9⟩
              have HB9 := hide hB9
              clear hB9
              go_wp2_with fail
              go_ret
              have hqe : ((q : Int) == 0) = false := by simpa using hq2
              refine ⟨?_, (unhide HQ9).b.trans ((unhide HB9).mono (unhide HQ9).b.size)⟩
              show Ending.returned (Value.bool (!((q : Int) == 0))) = _
              rw [hqe]
              rfl
            · obtain rfl : q = 0 := by omega
              have HST0 := unhide HST
              simp only [Nat.lt_irrefl, decide_false] at HST0
              have HST2 := hide HST0
              clear HST HST0 hq0
              go_wp2_with fail
              refine (unhide HST2).mono ?_
              rintro e w5 ⟨x, a', b', c', d', f', rfl, hz, HQ5⟩
              obtain ⟨rfl, rfl, rfl, rfl, rfl, rfl⟩ := hz trivial
              go_wp2_with fail
              have HQ6 := hide ((unhide HQ5).below ((Below.refl _ w5).alloc (Nat.le_refl _) (Obj.cells #[Value.int IntKind.i64 0, Value.int IntKind.i64 0, Value.int IntKind.i64 0, Value.int IntKind.i64 0, Value.int IntKind.i64 0, Value.int IntKind.i64 0, Value.int IntKind.i64 0] 29)))
              have L1 := HL.left (unhide HQ6)
              simp only [Nat.lt_irrefl, if_false] at L1
              refine L1.mono ?_
              rintro e w6 ⟨rfl, HQ7⟩
              clear L1
              have L2 := HL.live (unhide HQ7)
              simp only [Nat.lt_irrefl, if_false] at L2
              have HL2 := hide L2
              clear L2
              go_wp2_with fail
              refine (unhide HL2).mono ?_
              rintro e w7 ⟨ad, cap, rfl, HQ8⟩
              have L3 := HL.live (unhide HQ8)
              simp only [Nat.lt_irrefl, if_false] at L3
              have HL3 := hide L3
              clear L3
              go_wp2_with fail
              refine (unhide HL3).mono ?_
              rintro e w8 ⟨ad2, cap2, rfl, HQ9⟩
              go_wp2_with fail
              refine (unhide HK _).mono ?_
              rintro e w9 ⟨rfl, hB9⟩
              have HB9 := hide hB9
              clear hB9
              go_wp2_with fail
              go_ret
              exact ⟨rfl, (unhide HQ9).b.trans ((unhide HB9).mono (unhide HQ9).b.size)⟩
  · obtain ⟨m1, m2⟩ := make_R1 (kind := 3) (by omega)
    have HM := hide m2
    have HN := hide m1
    clear m1 m2 hk
    go_wp2_with fail
    refine (make_Q (unhide T1) (by omega) (unhide hw1) tX 0 3 0 0 0 0 0 tT (by decide) 2 0 _ (unhide HN) (make_E (kind := 3) (by omega)) rfl).mono ?_
    rintro e w2 ⟨rfl, T2, X2⟩
    have HR0 : Hid (HR w w2 t 3 0) := ⟨⟨_, 3, by omega, unhide T2, unhide HM⟩, (unhide X2).fst (unhide B1) (Nat.le_refl _)⟩
    clear T2 X2 T1 B1 HM HN H0 hw1 hw2
    go_wp2_with fail
    go_loopw [12] (fun i wr => ∃ j : Nat, j ≤ h ∧ i = .int .i64 (j : Int) ∧ Hid (HR w wr t 3 j)) (fun i _ => h - (intOf i).toNat)
    case atStart => exact ⟨0, Nat.zero_le _, rfl, HR0⟩
    case round =>
      obtain ⟨j, hj, rfl, HJ⟩ := hrel
      have hj6 : (j : Int) ≤ 6 := by omega
      by_cases hlt : j < h
      · have hlt2 : (j : Int) < (h : Int) := by omega
        go_wp2_with (go_at_call 22; refine (HR.hold (unhide HJ) (by omega)).mono ?_; rintro e w3 ⟨rfl, HJ2⟩)
        go_roundw
        case rel => exact ⟨j + 1, by omega, by go_num, HJ2⟩
        case measure => simp [intOf]; omega
      · obtain rfl : j = h := by omega
        clear hlt hj HR0
        go_wp2_with fail
        refine (HR.part (unhide HJ) (by omega)).mono ?_
        rintro e w4 ⟨rfl, HL0⟩
        have hj7 : j ≤ 6 := by omega
        go_wp2_with fail
        go_loopw [13, 14] (fun lf i wr => ∃ q m : Nat, m ≤ l ∧ q ≤ 6 ∧ lf = .int .i64 (q : Int) ∧ i = .int .i64 (m : Int) ∧ Hid (HL w wr t q)) (fun _ i _ => l - (intOf i).toNat)
        case atStart => exact ⟨j, 0, Nat.zero_le _, hj7, rfl, rfl, HL0⟩
        case round =>
          obtain ⟨q, m, hm, hq, rfl, rfl, HQ⟩ := hrel
          have hm8 : (m : Int) ≤ 8 := by omega
          have hq6 : (q : Int) ≤ 6 := by omega
          by_cases hlt : m < l
          · have hlt2 : (m : Int) < (l : Int) := by omega
            have HLO := HL.loose (unhide HQ)
            by_cases hq0 : 0 < q
            · have hq1 : (0 : Int) < (q : Int) := by omega
              rw [if_pos hq0] at HLO
              have HLH := hide HLO
              clear HLO
              go_wp2_with (go_at_call 12; refine (unhide HLH).mono ?_; rintro e w5 ⟨rfl, HQ2⟩)
              go_roundw
              case rel => exact ⟨q - 1, m + 1, by omega, by omega, by simp; omega, by go_num, HQ2⟩
              case measure => simp [intOf]; omega
            · obtain rfl : q = 0 := by omega
              rw [if_neg hq0] at HLO
              have HLH := hide HLO
              clear HLO hq0
              go_wp2_with (go_at_call 12; refine (unhide HLH).mono ?_; rintro e w5 ⟨rfl, HQ2⟩)
              go_roundw
              case rel => exact ⟨0, m + 1, by omega, by omega, rfl, by go_num, HQ2⟩
              case measure => simp [intOf]; omega
          · obtain rfl : m = l := by omega
            clear hlt hm
            have HST := hide (HL.stat (unhide HQ))
            by_cases hq0 : 0 < q
            · have hq1 : (0 : Int) < (q : Int) := by omega
              have hq2 : ¬ ((q : Int) = 0) := by omega
              simp only [hq0, decide_true] at HST
              go_wp2_with fail
              refine (unhide HST).mono ?_
              rintro e w5 ⟨x, a', b', c', d', f', rfl, _, HQ5⟩
              go_wp2_with fail
              have HQ6 := hide ((unhide HQ5).below ((Below.refl _ w5).alloc (Nat.le_refl _) (Obj.cells #[Value.int IntKind.i64 x, Value.int IntKind.i64 a', Value.int IntKind.i64 b', Value.int IntKind.i64 c', Value.int IntKind.i64 d', Value.int IntKind.i64 0, Value.int IntKind.i64 f'] 29)))
              have L1 := HL.left (unhide HQ6)
              simp only [hq0, if_true] at L1
              refine L1.mono ?_
              rintro e w6 ⟨rfl, HQ7⟩
              clear L1
              have L2 := HL.live (unhide HQ7)
              simp only [hq0, if_true] at L2
              have HL2 := hide L2
              clear L2
              go_wp2_with fail
              refine (unhide HL2).mono ?_
              rintro e w7 ⟨ad, cap, rfl, HQ8⟩
              have L3 := HL.live (unhide HQ8)
              simp only [hq0, if_true] at L3
              have HL3 := hide L3
              clear L3
              go_wp2_with fail
              refine (unhide HL3).mono ?_
              rintro e w8 ⟨ad2, cap2, rfl, HQ9⟩
              go_wp2_with fail
              refine (unhide HK _).mono ?_
              rintro e w9 ⟨rfl, hB9⟩
              have HB9 := hide hB9
              clear hB9
              go_wp2_with fail
              go_ret
              have hqe : ((q : Int) == 0) = false := by simpa using hq2
              refine ⟨?_, (unhide HQ9).b.trans ((unhide HB9).mono (unhide HQ9).b.size)⟩
              show Ending.returned (Value.bool (!((q : Int) == 0))) = _
              rw [hqe]
              rfl
            · obtain rfl : q = 0 := by omega
              have HST0 := unhide HST
              simp only [Nat.lt_irrefl, decide_false] at HST0
              have HST2 := hide HST0
              clear HST HST0 hq0
              go_wp2_with fail
              refine (unhide HST2).mono ?_
              rintro e w5 ⟨x, a', b', c', d', f', rfl, hz, HQ5⟩
              obtain ⟨rfl, rfl, rfl, rfl, rfl, rfl⟩ := hz trivial
              go_wp2_with fail
              have HQ6 := hide ((unhide HQ5).below ((Below.refl _ w5).alloc (Nat.le_refl _) (Obj.cells #[Value.int IntKind.i64 0, Value.int IntKind.i64 0, Value.int IntKind.i64 0, Value.int IntKind.i64 0, Value.int IntKind.i64 0, Value.int IntKind.i64 0, Value.int IntKind.i64 0] 29)))
              have L1 := HL.left (unhide HQ6)
              simp only [Nat.lt_irrefl, if_false] at L1
              refine L1.mono ?_
              rintro e w6 ⟨rfl, HQ7⟩
              clear L1
              have L2 := HL.live (unhide HQ7)
              simp only [Nat.lt_irrefl, if_false] at L2
              have HL2 := hide L2
              clear L2
              go_wp2_with fail
              refine (unhide HL2).mono ?_
              rintro e w7 ⟨ad, cap, rfl, HQ8⟩
              have L3 := HL.live (unhide HQ8)
              simp only [Nat.lt_irrefl, if_false] at L3
              have HL3 := hide L3
              clear L3
              go_wp2_with fail
              refine (unhide HL3).mono ?_
              rintro e w8 ⟨ad2, cap2, rfl, HQ9⟩
              go_wp2_with fail
              refine (unhide HK _).mono ?_
              rintro e w9 ⟨rfl, hB9⟩
              have HB9 := hide hB9
              clear hB9
              go_wp2_with fail
              go_ret
              exact ⟨rfl, (unhide HQ9).b.trans ((unhide HB9).mono (unhide HQ9).b.size)⟩
end Go.Proofs.Ytiedobpgfhmidaa
