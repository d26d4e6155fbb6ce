/-
  NameJoins: two paths with a slash between have the parts of both.
-/
import Derived.Test.YtnhddendkolfeaaJoins
namespace Go.Proofs.Ytnhddendkolfeaa
open Go.RowKit
attribute [local go_sem ↓] Go.wp_at_zero Go.wp_at_succ

set_option maxRecDepth 100000 in
set_option maxHeartbeats 4000000 in
theorem joins_ls (ma la : List UInt8) (ua : (1500 : Int) < (ma.length : Int)) (xa : (bs ma).extract 0 1500 = bs la) (hla : la.length ≤ 1500) (lb : List UInt8) (hlb : lb.length ≤ 1500) (w : World) : Calls Try.prog 7 #[S ma, S lb] w fun e w' => e = .returned (.bool true) ∧ Below w.heap.size w w' := by
  have ub : ¬ (1500 : Int) < (lb.length : Int) := by omega
  go_enter Try.func7, Try.ntmps7
  go_wp2_with fail
  refine (read_P la _).mono ?_
  rintro e w1 ⟨a5, c5, rfl, r1, B1⟩
  obtain ⟨w2, hw2, B2, P5⟩ := pbox (r := rt la) (s := sl la) (n := (ps la).length) (cap := c5) r1
  have Z := hide (Below.step B1 B2 (Nat.le_refl _))
  replace P5 := hide P5
  clear r1 B1 B2
  go_wp2_with fail
  refine (read_P lb _).mono ?_
  rintro e w3 ⟨a7, c7, rfl, r3, B3⟩
  replace P5 := hide ((unhide P5).below B3)
  generalize w1.heap.size = b5 at *
  obtain ⟨w4, hw4, B4, P7⟩ := pbox (r := rt lb) (s := sl lb) (n := (ps lb).length) (cap := c7) r3
  replace Z := hide (Below.step (Below.step (unhide Z) B3 (Nat.le_refl _)) B4 (Nat.le_refl _))
  replace P5 := hide ((unhide P5).below B4)
  replace P7 := hide P7
  clear r3 B3 B4 hw2
  go_wp2_with fail
  rw [cat3 la lb]
  by_cases hok : err la = 0 ∧ err lb = 0
  · obtain ⟨ea, eb⟩ := hok
    have R := read_P (la ++ 47 :: lb) w4
    rw [join_err ea eb hla hlb, join_rt ea eb hla hlb, join_sl ea eb hla hlb, join_ps ea eb hla hlb] at R
    rw [ea, eb]
    have p1 := (ps_small la).1
    have p2 := (ps_small lb).1
    clear ea eb
    replace R := hide R
    generalize rt la = ra at *
    generalize sl la = sa at *
    generalize rt lb = rb at *
    generalize sl lb = sb at *
    generalize hq5 : ps la = q5 at *
    generalize hq7 : ps lb = q7 at *
    clear hq5 hq7
    refine (unhide R).mono ?_
    rintro e w5 ⟨a9, c9, rfl, r5, B5⟩
    replace P5 := hide ((unhide P5).below B5)
    replace P7 := hide ((unhide P7).below B5)
    generalize w3.heap.size = b7 at *
    obtain ⟨w6, hw6, B6, P9⟩ := pbox (r := ra) (s := sb) (n := (q5 ++ q7).length) (cap := c9) r5
    replace P5 := (unhide P5).below B6
    replace P7 := (unhide P7).below B6
    replace Z := Below.step (Below.step (unhide Z) B5 (Nat.le_refl _)) B6 (Nat.le_refl _)
    clear r5 B5 R hw4
    have hsz : (q5 ++ q7).length = q5.length + q7.length := List.length_append
    generalize hl5 : q5.length = n5 at *
    generalize hl7 : q7.length = n7 at *
    rw [hsz] at P9 hw6 ⊢
    go_wp2_with fail
    generalize w5.heap.size = b9 at *
    clear B6 hw6
    have Q5 := P5.drew
    have Q7 := P7.drew
    have Q9 := P9.drew
    replace Z := below_drew Z
    clear P5 P7 P9
    generalize hX : w6.drew = X at *
    obtain ⟨Y, W1, W2, g1, c1, g2, c2, hY, run1, run2, RW, BY, BW1, BW2⟩ := join_run (c5 := c5) (c7 := c7) Q5.rw hl5 Q7.rw hl7 (by omega)
    have H := same_yes a9 (some ⟨g2, 0, none⟩) c9 c2 (n5 + n7) (q5 ++ q7) (by rw [hsz]) (by omega) W2 (Q9.rw.below BW2) RW
    obtain ⟨x0, -, x2⟩ := Q5.cells
    obtain ⟨-, y1, y2⟩ := Q7.cells
    obtain ⟨z0, z1, z2⟩ := Q9.cells
    obtain ⟨x0Y, -, x2Y⟩ := (Q5.below BY).cells
    obtain ⟨-, y1Y, y2Y⟩ := (Q7.below BY).cells
    obtain ⟨z0Y, z1Y, z2Y⟩ := (Q9.below BY).cells
    replace run1 : AppRun 22 22 _ _ _ _ _ := ⟨run1⟩
    replace run2 : AppRun 22 22 _ _ _ _ _ := ⟨run2⟩
    have lt5 := lt_of_heap Q5.bx
    have lt7 := lt_of_heap Q7.bx
    have lt9 := lt_of_heap Q9.bx
    have HB1 := hide BW1
    have HB2 := hide BW2
    have HQ := hide (show _ ∧ _ ∧ _ from ⟨Q5, Q7, Q9⟩)
    have HZ := hide Z
    clear BY BW1 BW2 Q5 Q7 Q9 RW Z
    subst hX
    go_region_held3 (fun w' => w'.cell? ⟨b9, 2, none⟩ = some (.slice a9 (n5 + n7) c9) ∧ w'.cell? ⟨b5, 2, none⟩ = some (.slice a5 n5 c5) ∧ w'.cell? ⟨b7, 2, none⟩ = some (.slice a7 n7 c7) ∧ w'.cell? ⟨b9, 0, none⟩ = some (.bool ra) ∧ w'.cell? ⟨b5, 0, none⟩ = some (.bool ra) ∧ w'.cell? ⟨b9, 1, none⟩ = some (.bool sb) ∧ w'.cell? ⟨b7, 1, none⟩ = some (.bool sb)) (exact ⟨by assumption, by assumption, by assumption, by assumption, by assumption, by assumption, by assumption⟩)
      (first
        | (refine step_append_g run1 _ _ (by rfl) (by rfl) (by rfl) (by rfl) (by rfl) ?_; obtain ⟨A5, A7, A9⟩ := unhide HQ; obtain ⟨m0, -, m2⟩ := (A5.below (unhide HB1)).cells; obtain ⟨-, l1, l2⟩ := (A7.below (unhide HB1)).cells; obtain ⟨k0, k1, k2⟩ := (A9.below (unhide HB1)).cells)
        | (refine step_append_g run2 _ _ (by rfl) (by rfl) (by rfl) (by rfl) (by rfl) ?_; obtain ⟨A5, A7, A9⟩ := unhide HQ; obtain ⟨m0, -, m2⟩ := (A5.below (unhide HB2)).cells; obtain ⟨-, l1, l2⟩ := (A7.below (unhide HB2)).cells; obtain ⟨k0, k1, k2⟩ := (A9.below (unhide HB2)).cells)
        | (go_at_call 17; refine H.mono ?_; rintro e w7 ⟨rfl, B7⟩; obtain ⟨A5, A7, A9⟩ := unhide HQ; obtain ⟨m0, -, m2⟩ := ((A5.below (unhide HB2)).below B7).cells; obtain ⟨-, l1, l2⟩ := ((A7.below (unhide HB2)).below B7).cells; obtain ⟨k0, k1, k2⟩ := ((A9.below (unhide HB2)).below B7).cells)
        | (go_at_call 14; refine (known_any _).mono ?_; rintro e w8 ⟨rfl, B8⟩; obtain ⟨A5, A7, A9⟩ := unhide HQ; obtain ⟨m0, -, m2⟩ := (((A5.below (unhide HB2)).below B7).below B8).cells; obtain ⟨-, l1, l2⟩ := (((A7.below (unhide HB2)).below B7).below B8).cells; obtain ⟨k0, k1, k2⟩ := (((A9.below (unhide HB2)).below B7).below B8).cells))
    all_goals
      have ZZ := hide (Below.step (Below.step (Below.step (unhide HZ) (unhide HB2) (Nat.le_refl _)) B7 (Nat.le_refl _)) B8 (Nat.le_refl _))
      clear HQ HB1 HB2 HZ B7 B8 run1 run2 H
      go_wp2_with fail
      go_ret
      exact ⟨rfl, unhide ZZ⟩
  · refine (read_P (la ++ 47 :: lb) w4).mono ?_
    rintro e w5 ⟨a9, c9, rfl, r5, B5⟩
    obtain ⟨w6, hw6, B6, -⟩ := box (W := w5) (.cells #[.bool (rt (la ++ 47 :: lb)), .bool (sl (la ++ 47 :: lb)), .slice a9 (ps (la ++ 47 :: lb)).length c9] 24)
    replace Z := hide (Below.step (Below.step (unhide Z) B5 (Nat.le_refl _)) B6 (Nat.le_refl _))
    clear r5 B5 B6 P5 P7 hw4
    by_cases ea : err la = 0
    · have eb : ¬ err lb = 0 := fun h => hok ⟨ea, h⟩
      rw [ea]
      clear hok ea
      generalize err lb = x at *
      go_wp2_with fail
      refine (known_any _).mono ?_
      rintro e w7 ⟨rfl, B7⟩
      replace Z := hide (Below.step (unhide Z) B7 (Nat.le_refl _))
      clear B7
      go_wp2_with fail
      go_ret
      exact ⟨rfl, unhide Z⟩
    · clear hok
      generalize err la = x at *
      go_wp2_with fail
      refine (known_any _).mono ?_
      rintro e w7 ⟨rfl, B7⟩
      replace Z := hide (Below.step (unhide Z) B7 (Nat.le_refl _))
      clear B7
      go_wp2_with fail
      go_ret
      exact ⟨rfl, unhide Z⟩
set_option maxRecDepth 100000 in
set_option maxHeartbeats 4000000 in
theorem joins_ll (ma la : List UInt8) (ua : (1500 : Int) < (ma.length : Int)) (xa : (bs ma).extract 0 1500 = bs la) (hla : la.length ≤ 1500) (mb lb : List UInt8) (ub : (1500 : Int) < (mb.length : Int)) (xb : (bs mb).extract 0 1500 = bs lb) (hlb : lb.length ≤ 1500) (w : World) : Calls Try.prog 7 #[S ma, S mb] w fun e w' => e = .returned (.bool true) ∧ Below w.heap.size w w' := by
  go_enter Try.func7, Try.ntmps7
  go_wp2_with fail
  refine (read_P la _).mono ?_
  rintro e w1 ⟨a5, c5, rfl, r1, B1⟩
  obtain ⟨w2, hw2, B2, P5⟩ := pbox (r := rt la) (s := sl la) (n := (ps la).length) (cap := c5) r1
  have Z := hide (Below.step B1 B2 (Nat.le_refl _))
  replace P5 := hide P5
  clear r1 B1 B2
  go_wp2_with fail
  refine (read_P lb _).mono ?_
  rintro e w3 ⟨a7, c7, rfl, r3, B3⟩
  replace P5 := hide ((unhide P5).below B3)
  generalize w1.heap.size = b5 at *
  obtain ⟨w4, hw4, B4, P7⟩ := pbox (r := rt lb) (s := sl lb) (n := (ps lb).length) (cap := c7) r3
  replace Z := hide (Below.step (Below.step (unhide Z) B3 (Nat.le_refl _)) B4 (Nat.le_refl _))
  replace P5 := hide ((unhide P5).below B4)
  replace P7 := hide P7
  clear r3 B3 B4 hw2
  go_wp2_with fail
  rw [cat3 la lb]
  by_cases hok : err la = 0 ∧ err lb = 0
  · obtain ⟨ea, eb⟩ := hok
    have R := read_P (la ++ 47 :: lb) w4
    rw [join_err ea eb hla hlb, join_rt ea eb hla hlb, join_sl ea eb hla hlb, join_ps ea eb hla hlb] at R
    rw [ea, eb]
    have p1 := (ps_small la).1
    have p2 := (ps_small lb).1
    clear ea eb
    replace R := hide R
    generalize rt la = ra at *
    generalize sl la = sa at *
    generalize rt lb = rb at *
    generalize sl lb = sb at *
    generalize hq5 : ps la = q5 at *
    generalize hq7 : ps lb = q7 at *
    clear hq5 hq7
    refine (unhide R).mono ?_
    rintro e w5 ⟨a9, c9, rfl, r5, B5⟩
    replace P5 := hide ((unhide P5).below B5)
    replace P7 := hide ((unhide P7).below B5)
    generalize w3.heap.size = b7 at *
    obtain ⟨w6, hw6, B6, P9⟩ := pbox (r := ra) (s := sb) (n := (q5 ++ q7).length) (cap := c9) r5
    replace P5 := (unhide P5).below B6
    replace P7 := (unhide P7).below B6
    replace Z := Below.step (Below.step (unhide Z) B5 (Nat.le_refl _)) B6 (Nat.le_refl _)
    clear r5 B5 R hw4
    have hsz : (q5 ++ q7).length = q5.length + q7.length := List.length_append
    generalize hl5 : q5.length = n5 at *
    generalize hl7 : q7.length = n7 at *
    rw [hsz] at P9 hw6 ⊢
    go_wp2_with fail
    generalize w5.heap.size = b9 at *
    clear B6 hw6
    have Q5 := P5.drew
    have Q7 := P7.drew
    have Q9 := P9.drew
    replace Z := below_drew Z
    clear P5 P7 P9
    generalize hX : w6.drew = X at *
    obtain ⟨Y, W1, W2, g1, c1, g2, c2, hY, run1, run2, RW, BY, BW1, BW2⟩ := join_run (c5 := c5) (c7 := c7) Q5.rw hl5 Q7.rw hl7 (by omega)
    have H := same_yes a9 (some ⟨g2, 0, none⟩) c9 c2 (n5 + n7) (q5 ++ q7) (by rw [hsz]) (by omega) W2 (Q9.rw.below BW2) RW
    obtain ⟨x0, -, x2⟩ := Q5.cells
    obtain ⟨-, y1, y2⟩ := Q7.cells
    obtain ⟨z0, z1, z2⟩ := Q9.cells
    obtain ⟨x0Y, -, x2Y⟩ := (Q5.below BY).cells
    obtain ⟨-, y1Y, y2Y⟩ := (Q7.below BY).cells
    obtain ⟨z0Y, z1Y, z2Y⟩ := (Q9.below BY).cells
    replace run1 : AppRun 22 22 _ _ _ _ _ := ⟨run1⟩
    replace run2 : AppRun 22 22 _ _ _ _ _ := ⟨run2⟩
    have lt5 := lt_of_heap Q5.bx
    have lt7 := lt_of_heap Q7.bx
    have lt9 := lt_of_heap Q9.bx
    have HB1 := hide BW1
    have HB2 := hide BW2
    have HQ := hide (show _ ∧ _ ∧ _ from ⟨Q5, Q7, Q9⟩)
    have HZ := hide Z
    clear BY BW1 BW2 Q5 Q7 Q9 RW Z
    subst hX
    go_region_held3 (fun w' => w'.cell? ⟨b9, 2, none⟩ = some (.slice a9 (n5 + n7) c9) ∧ w'.cell? ⟨b5, 2, none⟩ = some (.slice a5 n5 c5) ∧ w'.cell? ⟨b7, 2, none⟩ = some (.slice a7 n7 c7) ∧ w'.cell? ⟨b9, 0, none⟩ = some (.bool ra) ∧ w'.cell? ⟨b5, 0, none⟩ = some (.bool ra) ∧ w'.cell? ⟨b9, 1, none⟩ = some (.bool sb) ∧ w'.cell? ⟨b7, 1, none⟩ = some (.bool sb)) (exact ⟨by assumption, by assumption, by assumption, by assumption, by assumption, by assumption, by assumption⟩)
      (first
        | (refine step_append_g run1 _ _ (by rfl) (by rfl) (by rfl) (by rfl) (by rfl) ?_; obtain ⟨A5, A7, A9⟩ := unhide HQ; obtain ⟨m0, -, m2⟩ := (A5.below (unhide HB1)).cells; obtain ⟨-, l1, l2⟩ := (A7.below (unhide HB1)).cells; obtain ⟨k0, k1, k2⟩ := (A9.below (unhide HB1)).cells)
        | (refine step_append_g run2 _ _ (by rfl) (by rfl) (by rfl) (by rfl) (by rfl) ?_; obtain ⟨A5, A7, A9⟩ := unhide HQ; obtain ⟨m0, -, m2⟩ := (A5.below (unhide HB2)).cells; obtain ⟨-, l1, l2⟩ := (A7.below (unhide HB2)).cells; obtain ⟨k0, k1, k2⟩ := (A9.below (unhide HB2)).cells)
        | (go_at_call 17; refine H.mono ?_; rintro e w7 ⟨rfl, B7⟩; obtain ⟨A5, A7, A9⟩ := unhide HQ; obtain ⟨m0, -, m2⟩ := ((A5.below (unhide HB2)).below B7).cells; obtain ⟨-, l1, l2⟩ := ((A7.below (unhide HB2)).below B7).cells; obtain ⟨k0, k1, k2⟩ := ((A9.below (unhide HB2)).below B7).cells)
        | (go_at_call 14; refine (known_any _).mono ?_; rintro e w8 ⟨rfl, B8⟩; obtain ⟨A5, A7, A9⟩ := unhide HQ; obtain ⟨m0, -, m2⟩ := (((A5.below (unhide HB2)).below B7).below B8).cells; obtain ⟨-, l1, l2⟩ := (((A7.below (unhide HB2)).below B7).below B8).cells; obtain ⟨k0, k1, k2⟩ := (((A9.below (unhide HB2)).below B7).below B8).cells))
    all_goals
      have ZZ := hide (Below.step (Below.step (Below.step (unhide HZ) (unhide HB2) (Nat.le_refl _)) B7 (Nat.le_refl _)) B8 (Nat.le_refl _))
      clear HQ HB1 HB2 HZ B7 B8 run1 run2 H
      go_wp2_with fail
      go_ret
      exact ⟨rfl, unhide ZZ⟩
  · refine (read_P (la ++ 47 :: lb) w4).mono ?_
    rintro e w5 ⟨a9, c9, rfl, r5, B5⟩
    obtain ⟨w6, hw6, B6, -⟩ := box (W := w5) (.cells #[.bool (rt (la ++ 47 :: lb)), .bool (sl (la ++ 47 :: lb)), .slice a9 (ps (la ++ 47 :: lb)).length c9] 24)
    replace Z := hide (Below.step (Below.step (unhide Z) B5 (Nat.le_refl _)) B6 (Nat.le_refl _))
    clear r5 B5 B6 P5 P7 hw4
    by_cases ea : err la = 0
    · have eb : ¬ err lb = 0 := fun h => hok ⟨ea, h⟩
      rw [ea]
      clear hok ea
      generalize err lb = x at *
      go_wp2_with fail
      refine (known_any _).mono ?_
      rintro e w7 ⟨rfl, B7⟩
      replace Z := hide (Below.step (unhide Z) B7 (Nat.le_refl _))
      clear B7
      go_wp2_with fail
      go_ret
      exact ⟨rfl, unhide Z⟩
    · clear hok
      generalize err la = x at *
      go_wp2_with fail
      refine (known_any _).mono ?_
      rintro e w7 ⟨rfl, B7⟩
      replace Z := hide (Below.step (unhide Z) B7 (Nat.le_refl _))
      clear B7
      go_wp2_with fail
      go_ret
      exact ⟨rfl, unhide Z⟩
theorem cut_bs (l : List UInt8) : (bs l).extract 0 1500 = bs (l.take 1500) := by
  rw [extract_bs, List.drop_zero]
theorem joins_walk (a : ByteArray) (_ : a.size ≤ 9223372036854775807) (b : ByteArray) (_ : b.size ≤ 9223372036854775807) (w : World) : Calls Try.prog 7 #[.string a, .string b] w fun e w' => e = .returned (.bool true) ∧ Below w.heap.size w w' := by
  obtain ⟨x, rfl⟩ : ∃ x, bs x = a := ⟨_, bs_data a⟩
  obtain ⟨y, rfl⟩ : ∃ y, bs y = b := ⟨_, bs_data b⟩
  by_cases hx : x.length ≤ 1500
  · by_cases hy : y.length ≤ 1500
    · exact joins_ss x hx y hy w
    · exact joins_sl x hx y (y.take 1500) (by omega) (cut_bs y) (by simp; omega) w
  · by_cases hy : y.length ≤ 1500
    · exact joins_ls x (x.take 1500) (by omega) (cut_bs x) (by simp; omega) y hy w
    · exact joins_ll x (x.take 1500) (by omega) (cut_bs x) (by simp; omega) y (y.take 1500) (by omega) (cut_bs y) (by simp; omega) w
end Go.Proofs.Ytnhddendkolfeaa
