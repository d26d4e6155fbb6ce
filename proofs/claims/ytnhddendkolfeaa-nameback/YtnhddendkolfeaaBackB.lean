/-
  NameBack: a path that is written of right parts is read as itself; slashes more between change nothing.
-/
import Derived.Test.YtnhddendkolfeaaBack
namespace Go.Proofs.Ytnhddendkolfeaa
open Go.RowKit
attribute [local go_sem ↓] Go.wp_at_zero Go.wp_at_succ

set_option maxRecDepth 100000 in
set_option maxHeartbeats 4000000 in
theorem back_bare (pa : Option Addr) (len pc : Nat) (s : Bool) (more : Int) (w : World) (hS : StrsAt w pa len) : Calls Try.prog 5 #[.slice pa len pc, .bool false, .bool s, .int .i64 more] w fun e w' => e = .returned (.bool true) ∧ Below w.heap.size w w' := by
  have hlen := hS.1
  obtain ⟨W0, hW0, B0, b0⟩ := box (W := w) (.cells #[.bool false, .bool s, .slice none 0 0] 24)
  have J0 := hide (show CJ w W0 w.heap.size w.heap.size false s none 0 0 [] from ⟨B0, b0, Nat.le_refl _, World.ownsRow_nil _ _ _ _⟩)
  replace hS := hide hS
  replace hW0 := hide hW0
  clear B0 b0
  go_enter Try.func5, Try.ntmps5
  go_wp2_with fail
  rw [unhide hW0]
  refine (within_nat more 5 _ (by omega)).mono ?_
  rintro e w' ⟨⟨m, hm, rfl⟩, rfl⟩
  generalize hH : w.heap.size = h at *
  have HH := hide hH
  clear hH hW0
  go_wp2_with fail
  go_loopw [11, 12] (fun t i wr => ∃ j : Nat, j ≤ m ∧ i = .int .i64 ((m - j : Nat) : Int) ∧ t = S (bars (j + 1)) ∧ wr = w') (fun _ i _ => (intOf i).toNat)
  case atStart => exact ⟨0, by omega, rfl, rfl, rfl⟩
  case round =>
    obtain ⟨j, hj, rfl, rfl, rfl⟩ := hrel
    by_cases hlt : j < m
    · obtain ⟨d, hd⟩ : ∃ d, m - j = d + 1 := ⟨m - j - 1, by omega⟩
      rw [hd]
      have d0 : (0 : Int) < ((d + 1 : Nat) : Int) := by omega
      have hsn := bars_snoc (j + 1)
      have hbl : (bars (j + 1)).length ≤ 100 := by rw [bars_len]; omega
      go_wp2_with fail
      refine ⟨⟨j + 1, by omega, ?_, rfl, trivial⟩, by simp [intOf]⟩
      rw [show m - (j + 1) = d by omega]
    · obtain rfl : j = m := by omega
      rw [show ((j - j : Nat) : Int) = 0 by omega]
      clear hlt hj
      go_wp2_with fail
      go_loopw [10, 13] (fun t i wr => ∃ (k M : Nat) (q : List (List UInt8)) (a : Option Addr) (cap : Nat), k ≤ len ∧ M ≤ 12 ∧ i = .int .i64 k ∧ t = S (([] : List UInt8) ++ joinK (bars (j + 1)) q) ∧ q.length = M ∧ Hid (Rights q) ∧ Hid (CJ w wr h h false s a M cap q)) (fun _ i _ => len - (intOf i).toNat)
      case atStart => exact ⟨0, 0, [], none, 0, by omega, by omega, rfl, rfl, rfl, hide (fun _ hp => by simp at hp), J0⟩
      case round =>
        obtain ⟨k, M, q, a, cap, hk, hM, rfl, rfl, hqM, hR, J⟩ := hrel
        clear J0
        by_cases hlt : k < len
        · have j0 : (0 : Int) ≤ (k : Int) := by omega
          have j1 : (k : Int) < (len : Int) := by omega
          by_cases h12 : M < 12
          · have j2 : (M : Int) < 12 := by omega
            obtain ⟨b, off, sx, rfl, hb, hc, hsz⟩ := (unhide hS).2 k hlt
            obtain ⟨x, rfl⟩ : ∃ x, bs x = sx := ⟨_, bs_data sx⟩
            have cX : wr.cell? ⟨b, off + k, none⟩ = some (.string (bs x)) := (World.cell?_of_block ((unhide J).be.block b (by rw [← unhide HH]; exact hb))).trans hc
            obtain ⟨e0, e1, e2, ef⟩ := (unhide J).cells
            replace hb : b < h := by rw [← unhide HH]; exact hb
            clear hc hsz e0 e1 ef
            go_wp2_with fail
            by_cases hx : right x = true
            · refine (right_E hx _).mono ?_
              rintro e w' ⟨rfl, rfl⟩
              obtain ⟨-, x1, -, -⟩ := right_ok hx
              obtain ⟨a', cap', W6, run1, d0, df, J6⟩ := (unhide J).drew.more x (by omega)
              have hsn := joinK_snoc (bars (j + 1)) q x
              have hl := joinK_len q (j + 1) fun p hp => (right_ok (unhide hR p hp)).2.1
              have hl2 : q.length * (255 + (j + 1)) ≤ 12 * 261 := Nat.mul_le_mul (by omega) (by omega)
              have hR2 := hide ((unhide hR).snoc hx)
              have hbl : (bars (j + 1)).length ≤ 100 := by rw [bars_len]; omega
              have s0l : (([] : List UInt8) ++ joinK (bars (j + 1)) q).length ≤ 4000 := by rw [List.length_append]; simp; omega
              have cX7 : (W6.setCell ⟨h, 2, none⟩ (.slice a' (M + 1) cap')).cell? ⟨b, off + k, none⟩ = some (.string (bs x)) := (World.cell?_of_block (J6.be.block b hb)).trans ((World.cell?_of_block ((unhide J).be.block b hb)).symm.trans cX)
              have hlw : h < w'.heap.size := lt_of_heap (unhide J).bx
              have hbw : b < w'.heap.size := by omega
              have hbh : ¬ b = h := by omega
              replace J6 := hide J6
              generalize hs0 : ([] : List UInt8) ++ joinK (bars (j + 1)) q = s0 at *
              generalize hbar : bars (j + 1) = bar at *
              replace hbar := hide hbar
              by_cases hM0 : M = 0
              · have hq0 : q = [] := List.length_eq_zero_iff.1 (by omega)
                rw [if_pos hq0, List.nil_append] at hsn
                obtain ⟨s2, hs2⟩ : ∃ s2, s0 ++ x = s2 := ⟨_, rfl⟩
                have t2 : bs s0 ++ bs x = bs s2 := by rw [cat_two, hs2]
                have HS2 : Hid (s2 = ([] : List UInt8) ++ joinK bar (q ++ [x])) := hide (by rw [hsn, ← hs2, ← hs0, List.append_assoc])
                subst hM0
                clear hsn hs2 hs0 hl hl2 hq0 hR hx
                go_wp2_with fail
                go_region_law (refine step_append_g run1 _ _ (by rfl) (by rfl) (by rfl) (by rfl) (by rfl) ?_)
                all_goals
                  generalize W6.setCell ⟨h, 2, none⟩ (.slice a' (0 + 1) cap') = W7 at *
                  clear run1 d0 df cX e2 J
                  go_wp2_with fail
                  have hb2 := unhide hbar
                  subst hb2
                  go_roundw
                  case rel => exact ⟨k + 1, 0 + 1, q ++ [x], a', cap', by omega, by omega, by go_num, by rw [← unhide HS2], by simp [hqM], hR2, J6⟩
                  case measure => simp [intOf]; omega
              · have m1 : (0 : Int) < (M : Int) := by omega
                have hq0 : q ≠ [] := by rintro rfl; simp at hqM; omega
                rw [if_neg hq0] at hsn
                obtain ⟨s1, hs1⟩ : ∃ s1, s0 ++ bar = s1 := ⟨_, rfl⟩
                obtain ⟨s2, hs2⟩ : ∃ s2, s1 ++ x = s2 := ⟨_, rfl⟩
                have t1 : bs s0 ++ bs bar = bs s1 := by rw [cat_two, hs1]
                have t2 : bs s1 ++ bs x = bs s2 := by rw [cat_two, hs2]
                have s1l : s1.length ≤ 4200 := by rw [← hs1, List.length_append]; omega
                have HS2 : Hid (s2 = ([] : List UInt8) ++ joinK bar (q ++ [x])) := hide (by rw [hsn, ← hs2, ← hs1, ← hs0]; simp)
                clear hsn hs2 hs1 hs0 hl hl2 hq0 hR hx hM0
                go_wp2_with fail
                go_region_law (refine step_append_g run1 _ _ (by rfl) (by rfl) (by rfl) (by rfl) (by rfl) ?_)
                all_goals
                  generalize W6.setCell ⟨h, 2, none⟩ (.slice a' (M + 1) cap') = W7 at *
                  clear run1 d0 df cX e2 J
                  go_wp2_with fail
                  have hb2 := unhide hbar
                  subst hb2
                  go_roundw
                  case rel => exact ⟨k + 1, M + 1, q ++ [x], a', cap', by omega, by omega, by go_num, by rw [← unhide HS2], by simp [hqM], hR2, J6⟩
                  case measure => simp [intOf]; omega
            · replace hx : right x = false := by simpa using hx
              refine (right_E hx _).mono ?_
              rintro e w' ⟨rfl, rfl⟩
              clear cX e2 hx
              go_wp2_with fail
              exact ⟨⟨k + 1, M, q, a, cap, by omega, hM, rfl, rfl, hqM, hR, J⟩, by simp [intOf]; omega⟩
          · have j2 : ¬ (M : Int) < 12 := by omega
            have hM1 : M ≠ 0 := by omega
            have hq0 : q ≠ [] := by rintro rfl; simp at hqM; omega
            have HW := hide (show wt q ≤ 100000000 from wt_rights (unhide hR) (by omega))
            have m0 : ¬ (M : Int) = 0 := by omega
            have hl := joinK_len q (j + 1) fun p hp => (right_ok (unhide hR p hp)).2.1
            have hl2 : q.length * (255 + (j + 1)) ≤ 12 * 261 := Nat.mul_le_mul (by omega) (by omega)
            have hbl : (bars (j + 1)).length ≤ 100 := by rw [bars_len]; omega
            have s0l : (([] : List UInt8) ++ joinK (bars (j + 1)) q).length ≤ 4000 := by rw [List.length_append]; simp; omega
            clear hl hl2
            have HqM := hide hqM
            obtain ⟨e0, e1, e2, ef⟩ := (unhide J).cells
            clear ef
            cases s with
            | true =>
              have K1 := hide (read_pk (r := false) (s := true) (unhide hR) hq0 (by omega) 0 (by omega))
              have K2 := hide (read_pk (r := false) (s := true) (unhide hR) hq0 (by omega) j (by omega))
              have t1 : bs (([] : List UInt8) ++ joinK (bars (j + 1)) q) ++ bs (bars (j + 1)) = bs (pk false true j q) := cat_two _ _
              simp only [← pw_pk hq0] at K1
              simp only [hqM] at K1 K2
              clear hqM
              generalize pk false true j q = sp at *
              clear hq0 hR
              generalize ([] : List UInt8) ++ joinK (bars (j + 1)) q = s0 at *
              go_wp2_with fail
              refine (wr_any false true q M (unhide HqM) a cap _ (RowO.of_own (unhide J).ow) (unhide HW)).mono ?_
              rintro e w1 ⟨rfl, B1⟩
              replace J := hide ((unhide J).below B1)
              clear B1 e0 e1 e2
              go_wp2_with fail
              refine (unhide K1 _).mono ?_
              rintro e w2 ⟨a2, c2, rfl, r2, B2⟩
              obtain ⟨w3, hw3, B3, P3⟩ := pbox (r := false) (s := true) (n := M) (cap := c2) r2
              replace J := hide (((unhide J).below B2).below B3)
              replace P3 := hide P3
              clear r2 B2 B3
              go_wp2_with fail
              refine (unhide K2 _).mono ?_
              rintro e w4 ⟨a4, c4, rfl, r4, B4⟩
              replace P3 := hide ((unhide P3).below B4)
              generalize w2.heap.size = b3 at *
              obtain ⟨w5, hw5, B5, P5⟩ := pbox (r := false) (s := true) (n := M) (cap := c4) r4
              replace J := hide (((unhide J).below B4).below B5)
              replace P3 := hide ((unhide P3).below B5)
              clear r4 B4 B5 hw3
              replace P5 := hide P5
              have H1 := hide (same_yes a2 a c2 cap M q (unhide HqM) (by omega) w5 (unhide P3).rw (RowO.of_own (unhide J).ow))
              obtain ⟨x0, x1, x2⟩ := (unhide P3).cells
              obtain ⟨-, -, y2, -⟩ := (unhide J).cells
              go_wp2_with fail
              refine (unhide H1).mono ?_
              rintro e w6 ⟨rfl, B6⟩
              generalize w4.heap.size = b5 at *
              replace J := hide ((unhide J).below B6)
              replace P5 := hide ((unhide P5).below B6)
              clear B6 x0 x1 x2 y2 H1 hw5 P3
              have H2 := hide (same_yes a4 a c4 cap M q (unhide HqM) (by omega) w6 (unhide P5).rw (RowO.of_own (unhide J).ow))
              obtain ⟨x0, x1, x2⟩ := (unhide P5).cells
              obtain ⟨-, -, y2, -⟩ := (unhide J).cells
              go_wp2_with fail
              refine (unhide H2).mono ?_
              rintro e w7 ⟨rfl, B7⟩
              replace J := hide ((unhide J).below B7)
              clear B7 x0 x1 x2 y2 H2 P5
              go_wp2_with fail
              refine (known_any _).mono ?_
              rintro e w8 ⟨rfl, B8⟩
              replace J := hide ((unhide J).below B8)
              clear B8
              go_wp2_with fail
              go_ret
              exact ⟨rfl, by rw [unhide HH]; exact (unhide J).be⟩
            | false =>
              have K1 := hide (read_pk (r := false) (s := false) (unhide hR) hq0 (by omega) 0 (by omega))
              have K2 := hide (read_pk (r := false) (s := false) (unhide hR) hq0 (by omega) j (by omega))
              have t1 : pk false false j q = ([] : List UInt8) ++ joinK (bars (j + 1)) q := by simp [pk]
              simp only [← pw_pk hq0] at K1
              simp only [t1] at K2
              simp only [hqM] at K1 K2
              clear hq0 hR t1 hqM
              generalize ([] : List UInt8) ++ joinK (bars (j + 1)) q = s0 at *
              go_wp2_with fail
              refine (wr_any false false q M (unhide HqM) a cap _ (RowO.of_own (unhide J).ow) (unhide HW)).mono ?_
              rintro e w1 ⟨rfl, B1⟩
              replace J := hide ((unhide J).below B1)
              clear B1 e0 e1 e2
              go_wp2_with fail
              refine (unhide K1 _).mono ?_
              rintro e w2 ⟨a2, c2, rfl, r2, B2⟩
              obtain ⟨w3, hw3, B3, P3⟩ := pbox (r := false) (s := false) (n := M) (cap := c2) r2
              replace J := hide (((unhide J).below B2).below B3)
              replace P3 := hide P3
              clear r2 B2 B3
              go_wp2_with fail
              refine (unhide K2 _).mono ?_
              rintro e w4 ⟨a4, c4, rfl, r4, B4⟩
              replace P3 := hide ((unhide P3).below B4)
              generalize w2.heap.size = b3 at *
              obtain ⟨w5, hw5, B5, P5⟩ := pbox (r := false) (s := false) (n := M) (cap := c4) r4
              replace J := hide (((unhide J).below B4).below B5)
              replace P3 := hide ((unhide P3).below B5)
              clear r4 B4 B5 hw3
              replace P5 := hide P5
              have H1 := hide (same_yes a2 a c2 cap M q (unhide HqM) (by omega) w5 (unhide P3).rw (RowO.of_own (unhide J).ow))
              obtain ⟨x0, x1, x2⟩ := (unhide P3).cells
              obtain ⟨-, -, y2, -⟩ := (unhide J).cells
              go_wp2_with fail
              refine (unhide H1).mono ?_
              rintro e w6 ⟨rfl, B6⟩
              generalize w4.heap.size = b5 at *
              replace J := hide ((unhide J).below B6)
              replace P5 := hide ((unhide P5).below B6)
              clear B6 x0 x1 x2 y2 H1 hw5 P3
              have H2 := hide (same_yes a4 a c4 cap M q (unhide HqM) (by omega) w6 (unhide P5).rw (RowO.of_own (unhide J).ow))
              obtain ⟨x0, x1, x2⟩ := (unhide P5).cells
              obtain ⟨-, -, y2, -⟩ := (unhide J).cells
              go_wp2_with fail
              refine (unhide H2).mono ?_
              rintro e w7 ⟨rfl, B7⟩
              replace J := hide ((unhide J).below B7)
              clear B7 x0 x1 x2 y2 H2 P5
              go_wp2_with fail
              refine (known_any _).mono ?_
              rintro e w8 ⟨rfl, B8⟩
              replace J := hide ((unhide J).below B8)
              clear B8
              go_wp2_with fail
              go_ret
              exact ⟨rfl, by rw [unhide HH]; exact (unhide J).be⟩
        · have j1 : ¬ (k : Int) < (len : Int) := by omega
          by_cases hM1 : M = 0
          · obtain ⟨e0, e1, e2, ef⟩ := (unhide J).cells
            subst hM1
            clear e0 e1 ef
            go_wp2_with fail
            refine (known_any _).mono ?_
            rintro e w8 ⟨rfl, B8⟩
            replace J := hide ((unhide J).below B8)
            clear B8
            go_wp2_with fail
            go_ret
            exact ⟨rfl, by rw [unhide HH]; exact (unhide J).be⟩
          · clear hlt
            have hq0 : q ≠ [] := by rintro rfl; simp at hqM; omega
            have HW := hide (show wt q ≤ 100000000 from wt_rights (unhide hR) (by omega))
            have m0 : ¬ (M : Int) = 0 := by omega
            have hl := joinK_len q (j + 1) fun p hp => (right_ok (unhide hR p hp)).2.1
            have hl2 : q.length * (255 + (j + 1)) ≤ 12 * 261 := Nat.mul_le_mul (by omega) (by omega)
            have hbl : (bars (j + 1)).length ≤ 100 := by rw [bars_len]; omega
            have s0l : (([] : List UInt8) ++ joinK (bars (j + 1)) q).length ≤ 4000 := by rw [List.length_append]; simp; omega
            clear hl hl2
            have HqM := hide hqM
            obtain ⟨e0, e1, e2, ef⟩ := (unhide J).cells
            clear ef
            cases s with
            | true =>
              have K1 := hide (read_pk (r := false) (s := true) (unhide hR) hq0 (by omega) 0 (by omega))
              have K2 := hide (read_pk (r := false) (s := true) (unhide hR) hq0 (by omega) j (by omega))
              have t1 : bs (([] : List UInt8) ++ joinK (bars (j + 1)) q) ++ bs (bars (j + 1)) = bs (pk false true j q) := cat_two _ _
              simp only [← pw_pk hq0] at K1
              simp only [hqM] at K1 K2
              clear hqM
              generalize pk false true j q = sp at *
              clear hq0 hR
              generalize ([] : List UInt8) ++ joinK (bars (j + 1)) q = s0 at *
              go_wp2_with fail
              refine (wr_any false true q M (unhide HqM) a cap _ (RowO.of_own (unhide J).ow) (unhide HW)).mono ?_
              rintro e w1 ⟨rfl, B1⟩
              replace J := hide ((unhide J).below B1)
              clear B1 e0 e1 e2
              go_wp2_with fail
              refine (unhide K1 _).mono ?_
              rintro e w2 ⟨a2, c2, rfl, r2, B2⟩
              obtain ⟨w3, hw3, B3, P3⟩ := pbox (r := false) (s := true) (n := M) (cap := c2) r2
              replace J := hide (((unhide J).below B2).below B3)
              replace P3 := hide P3
              clear r2 B2 B3
              go_wp2_with fail
              refine (unhide K2 _).mono ?_
              rintro e w4 ⟨a4, c4, rfl, r4, B4⟩
              replace P3 := hide ((unhide P3).below B4)
              generalize w2.heap.size = b3 at *
              obtain ⟨w5, hw5, B5, P5⟩ := pbox (r := false) (s := true) (n := M) (cap := c4) r4
              replace J := hide (((unhide J).below B4).below B5)
              replace P3 := hide ((unhide P3).below B5)
              clear r4 B4 B5 hw3
              replace P5 := hide P5
              have H1 := hide (same_yes a2 a c2 cap M q (unhide HqM) (by omega) w5 (unhide P3).rw (RowO.of_own (unhide J).ow))
              obtain ⟨x0, x1, x2⟩ := (unhide P3).cells
              obtain ⟨-, -, y2, -⟩ := (unhide J).cells
              go_wp2_with fail
              refine (unhide H1).mono ?_
              rintro e w6 ⟨rfl, B6⟩
              generalize w4.heap.size = b5 at *
              replace J := hide ((unhide J).below B6)
              replace P5 := hide ((unhide P5).below B6)
              clear B6 x0 x1 x2 y2 H1 hw5 P3
              have H2 := hide (same_yes a4 a c4 cap M q (unhide HqM) (by omega) w6 (unhide P5).rw (RowO.of_own (unhide J).ow))
              obtain ⟨x0, x1, x2⟩ := (unhide P5).cells
              obtain ⟨-, -, y2, -⟩ := (unhide J).cells
              go_wp2_with fail
              refine (unhide H2).mono ?_
              rintro e w7 ⟨rfl, B7⟩
              replace J := hide ((unhide J).below B7)
              clear B7 x0 x1 x2 y2 H2 P5
              go_wp2_with fail
              refine (known_any _).mono ?_
              rintro e w8 ⟨rfl, B8⟩
              replace J := hide ((unhide J).below B8)
              clear B8
              go_wp2_with fail
              go_ret
              exact ⟨rfl, by rw [unhide HH]; exact (unhide J).be⟩
            | false =>
              have K1 := hide (read_pk (r := false) (s := false) (unhide hR) hq0 (by omega) 0 (by omega))
              have K2 := hide (read_pk (r := false) (s := false) (unhide hR) hq0 (by omega) j (by omega))
              have t1 : pk false false j q = ([] : List UInt8) ++ joinK (bars (j + 1)) q := by simp [pk]
              simp only [← pw_pk hq0] at K1
              simp only [t1] at K2
              simp only [hqM] at K1 K2
              clear hq0 hR t1 hqM
              generalize ([] : List UInt8) ++ joinK (bars (j + 1)) q = s0 at *
              go_wp2_with fail
              refine (wr_any false false q M (unhide HqM) a cap _ (RowO.of_own (unhide J).ow) (unhide HW)).mono ?_
              rintro e w1 ⟨rfl, B1⟩
              replace J := hide ((unhide J).below B1)
              clear B1 e0 e1 e2
              go_wp2_with fail
              refine (unhide K1 _).mono ?_
              rintro e w2 ⟨a2, c2, rfl, r2, B2⟩
              obtain ⟨w3, hw3, B3, P3⟩ := pbox (r := false) (s := false) (n := M) (cap := c2) r2
              replace J := hide (((unhide J).below B2).below B3)
              replace P3 := hide P3
              clear r2 B2 B3
              go_wp2_with fail
              refine (unhide K2 _).mono ?_
              rintro e w4 ⟨a4, c4, rfl, r4, B4⟩
              replace P3 := hide ((unhide P3).below B4)
              generalize w2.heap.size = b3 at *
              obtain ⟨w5, hw5, B5, P5⟩ := pbox (r := false) (s := false) (n := M) (cap := c4) r4
              replace J := hide (((unhide J).below B4).below B5)
              replace P3 := hide ((unhide P3).below B5)
              clear r4 B4 B5 hw3
              replace P5 := hide P5
              have H1 := hide (same_yes a2 a c2 cap M q (unhide HqM) (by omega) w5 (unhide P3).rw (RowO.of_own (unhide J).ow))
              obtain ⟨x0, x1, x2⟩ := (unhide P3).cells
              obtain ⟨-, -, y2, -⟩ := (unhide J).cells
              go_wp2_with fail
              refine (unhide H1).mono ?_
              rintro e w6 ⟨rfl, B6⟩
              generalize w4.heap.size = b5 at *
              replace J := hide ((unhide J).below B6)
              replace P5 := hide ((unhide P5).below B6)
              clear B6 x0 x1 x2 y2 H1 hw5 P3
              have H2 := hide (same_yes a4 a c4 cap M q (unhide HqM) (by omega) w6 (unhide P5).rw (RowO.of_own (unhide J).ow))
              obtain ⟨x0, x1, x2⟩ := (unhide P5).cells
              obtain ⟨-, -, y2, -⟩ := (unhide J).cells
              go_wp2_with fail
              refine (unhide H2).mono ?_
              rintro e w7 ⟨rfl, B7⟩
              replace J := hide ((unhide J).below B7)
              clear B7 x0 x1 x2 y2 H2 P5
              go_wp2_with fail
              refine (known_any _).mono ?_
              rintro e w8 ⟨rfl, B8⟩
              replace J := hide ((unhide J).below B8)
              clear B8
              go_wp2_with fail
              go_ret
              exact ⟨rfl, by rw [unhide HH]; exact (unhide J).be⟩
theorem back_walk (pa : Option Addr) (len pc : Nat) (r s : Bool) (more : Int) (w : World) (hS : StrsAt w pa len) : Calls Try.prog 5 #[.slice pa len pc, .bool r, .bool s, .int .i64 more] w fun e w' => e = .returned (.bool true) ∧ Below w.heap.size w w' := by
  cases r
  · exact back_bare pa len pc s more w hS
  · exact back_root pa len pc s more w hS
end Go.Proofs.Ytnhddendkolfeaa
