/-
  NameClean: what is clean is clean already; its parts are those without the dots.
-/
import Derived.Test.YtnhddendkolfeaaJoinA
import Derived.Test.YtnhddendkolfeaaSlashes
import Derived.Test.YtnhddendkolfeaaPureB
namespace Go.Proofs.Ytnhddendkolfeaa
open Go.RowKit
attribute [local go_sem ↓] Go.wp_at_zero Go.wp_at_succ

theorem nodots_take {q : List (List UInt8)} {k : Nat} {x : List UInt8} (h : q[k]? = some x) : nodots (q.take (k + 1)) = nodots (q.take k) ++ (if x = [46] then [] else [x]) := by
  rw [List.take_add_one, h]
  unfold nodots
  rw [List.filter_append]
  by_cases hx : x = [46] <;> simp [hx]
theorem read_F {l : List UInt8} {x : Int} {r s : Bool} {q : List (List UInt8)} (h1 : err l = x) (h2 : rt l = r) (h3 : sl l = s) (h4 : ps l = q) (w : World) : Calls Try.prog 9 #[S l] w fun e w' => ∃ a cap, e = .returned (.tuple #[.agg #[.bool r, .bool s, .slice a q.length cap], .int .i64 x]) ∧ RowO w' a q ∧ Below w.heap.size w w' := by
  have h := read_P l w
  rw [h1, h2, h3, h4] at h
  exact h
set_option maxRecDepth 100000 in
set_option maxHeartbeats 4000000 in
theorem cleans_ok (l : List UInt8) (he : err l = 0) (w : World) : Calls Try.prog 6 #[S l] w fun e w' => e = .returned (.bool true) ∧ Below w.heap.size w w' := by
  obtain ⟨g1, g2, g3, g4⟩ := clean_again he
  obtain ⟨-, l1, -, -⟩ := err_ok he
  have u1 : ¬ (6000 : Int) < (l.length : Int) := by omega
  have hq := (ps_small l).1
  have K1 := hide (clean_E he rfl (l := l))
  have K2 := hide (clean_E g1 g2)
  have K3 := hide (read_F he rfl rfl rfl (l := l))
  have K4 := hide (read_F g1 g4 rfl g3)
  have hw : want l = if nodots (ps l) = [] ∧ rt l = false then [[46]] else nodots (ps l) := rfl
  clear g1 g2 g3 g4 he
  generalize want l = wt0 at *
  generalize cl l = c at *
  generalize sl c = sc at *
  generalize rt l = r at *
  generalize sl l = s at *
  generalize ps l = q at *
  replace hw := hide hw
  obtain ⟨i9, hi9, hz0, hz1, hz2⟩ := info_parts info9
  go_enter Try.func6, Try.ntmps6
  go_wp2_with fail
  refine (unhide K1 _).mono ?_
  rintro e w1 ⟨rfl, B1⟩
  have Z := hide B1
  clear B1 K1
  go_wp2_with fail
  refine (unhide K2 _).mono ?_
  rintro e w2 ⟨rfl, B2⟩
  replace Z := hide (Below.step (unhide Z) B2 (Nat.le_refl _))
  clear B2 K2
  go_wp2_with fail
  refine (unhide K3 _).mono ?_
  rintro e w3 ⟨a7, c7, rfl, r3, B3⟩
  obtain ⟨w4, hw4, B4, P7⟩ := pbox (r := r) (s := s) (n := q.length) (cap := c7) r3
  replace Z := hide (Below.step (Below.step (unhide Z) B3 (Nat.le_refl _)) B4 (Nat.le_refl _))
  replace P7 := hide P7
  clear r3 B3 B4 K3
  go_wp2_with fail
  refine (unhide K4 _).mono ?_
  rintro e w5 ⟨a9, c9, rfl, r5, B5⟩
  replace P7 := hide ((unhide P7).below B5)
  generalize w3.heap.size = b7 at *
  obtain ⟨w6, hw6, B6, P9⟩ := pbox (r := r) (s := sc) (n := wt0.length) (cap := c9) r5
  replace Z := hide (Below.step (Below.step (unhide Z) B5 (Nat.le_refl _)) B6 (Nat.le_refl _))
  replace P7 := hide ((unhide P7).below B6)
  replace P9 := hide P9
  clear r5 B5 B6 K4 hw4
  go_wp2_with fail
  generalize w5.heap.size = b9 at *
  clear hw6
  generalize hn : q.length = n at *
  replace hn := hide hn
  generalize hnw : wt0.length = nw at *
  replace hnw := hide hnw
  have H0 := hide (World.ownsRow_nil w6 w6.heap.size 9 1)
  generalize hH : w6.heap.size = H at *
  replace hH := hide hH
  go_loopw [11, 12] (fun v i wr => ∃ (k M : Nat) (na : Option Addr) (nc : Nat), k ≤ n ∧ M ≤ k ∧ i = .int .i64 k ∧ v = .slice na M nc ∧ Hid ((nodots (q.take k)).length = M) ∧ Hid (wr.ownsRow H 9 1 (.slice na M nc) M (strs (nodots (q.take k)))) ∧ Hid (Below H w6 wr)) (fun _ i _ => n - (intOf i).toNat)
  case atStart => exact ⟨0, 0, none, 0, by omega, by omega, rfl, rfl, hide rfl, H0, hide (Below.refl _ _)⟩
  case round =>
    obtain ⟨k, M, na, nc, hk, hMk, rfl, rfl, hM, hO, hB⟩ := hrel
    have B' : Below w6.heap.size w6 wr := by rw [unhide hH]; exact unhide hB
    obtain ⟨x0, -, x2⟩ := ((unhide P7).below B').cells
    by_cases hlt : k < n
    · have j0 : (0 : Int) ≤ (k : Int) := by omega
      have j1 : (k : Int) < (n : Int) := by omega
      obtain ⟨x, hx⟩ : ∃ x, q[k]? = some x := ⟨_, List.getElem?_eq_getElem (by rw [unhide hn]; exact hlt)⟩
      obtain ⟨b, off, rfl, hb, c1⟩ := ((unhide P7).below B').rw k x hx
      have ht := hide (nodots_take hx)
      clear hx B' x0
      by_cases hd : x = [46]
      · subst hd
        go_wp2_with fail
        refine ⟨⟨k + 1, M, na, nc, by omega, by omega, rfl, rfl, hide (by rw [unhide ht]; simpa using unhide hM), hide (by rw [unhide ht]; simpa using unhide hO), hB⟩, by simp [intOf]; omega⟩
      · have hd2 : (x == [46]) = false := by simpa using hd
        have hsz : H ≤ wr.heap.size := by have := (unhide hB).size; rw [unhide hH] at this; exact this
        have own2 := own_keep (W' := wr.alloc (.cells #[S x] 9)) (unhide hO) (fun k cur hc => Below.heap_alloc wr _ _ (lt_of_heap hc))
        have HO := hide own2
        have P1 := hide (cell_one_new wr (S x) 9)
        have P2 : Hid (∀ u ∈ [S x], u.oneCell' = true) := hide (by intro u hu; simp at hu; subst hu; rfl)
        have P3 : Hid (M + 1 ≤ maxLen) := hide (by unfold maxLen; omega)
        have P4 : Hid ((M + 1) * 16 ≤ 140737488355328) := hide (by omega)
        have P5 : Hid (H ≤ (wr.alloc (.cells #[S x] 9)).heap.size) := hide (by simp; omega)
        rw [if_neg hd] at ht
        clear hd hO
        go_wp2_with (first
          | (at_builtin; refine wpList_append_own_at _ rfl _ _ 22 rfl H 9 i9 (.string ByteArray.empty) 1 16 Try.underlying22 hi9 hz0 hz1 hz2 rfl (by decide) _ _ _ rfl own2 ⟨wr.heap.size, 0, none⟩ 1 1 [S x] rfl rfl (unhide P1) (unhide P2) (unhide P3) (unhide P4) (unhide P5) ?_))
        intro v' w7 own7 hgr _ _
        obtain ⟨na', nc', rfl⟩ := own_form own7
        have HB7 := hide (below_grown ((unhide hB).alloc hsz _) (unhide HO) hgr (by simp; omega))
        have HO7 := hide own7
        clear own7 hgr own2 HO hB c1 x2
        go_wp2_with fail
        refine ⟨⟨k + 1, M + 1, na', nc', by omega, by omega, rfl, rfl, hide (by rw [unhide ht, List.length_append, unhide hM]; rfl), hide (by rw [unhide ht]; simpa [strs] using unhide HO7), HB7⟩, by simp [intOf]; omega⟩
    · obtain rfl : k = n := by omega
      have j1 : ¬ (k : Int) < (k : Int) := by omega
      have ht : q.take k = q := by rw [← unhide hn]; exact List.take_length
      rw [ht] at hM hO
      have RW := hide (RowO.of_own (unhide hO))
      have P7' := hide ((unhide P7).below B')
      have P9' := hide ((unhide P9).below B')
      have Z' := hide (Below.step (unhide Z) B' (Nat.le_refl _))
      obtain ⟨y0, -, y2⟩ := ((unhide P9).below B').cells
      clear hO hB B' ht P7 P9 Z
      by_cases hM0 : M = 0
      · subst hM0
        have hnil : nodots q = [] := List.length_eq_zero_iff.1 (unhide hM)
        cases r with
        | false =>
          have hw2 := unhide hw
          rw [if_pos ⟨hnil, rfl⟩] at hw2
          subst hw2
          obtain rfl : 1 = nw := unhide hnw
          obtain ⟨w8, hw8, B8, R8⟩ := row1 (W := wr) [46]
          replace P7' := hide ((unhide P7').below B8)
          replace P9' := hide ((unhide P9').below B8)
          replace Z' := hide (Below.step (unhide Z') B8 (Nat.le_refl _))
          have HS := hide (same_yes a9 (some ⟨wr.heap.size, 0, none⟩) c9 1 1 [[46]] rfl (by omega) w8 (unhide P9').rw R8)
          obtain ⟨v0, -, v2⟩ := (unhide P9').cells
          clear hw hnil hM B8 R8 RW hnw
          go_wp2_with fail
          refine (unhide HS).mono ?_
          rintro e w9 ⟨rfl, B9⟩
          obtain ⟨p0, -, -⟩ := ((unhide P7').below B9).cells
          obtain ⟨q0, -, -⟩ := ((unhide P9').below B9).cells
          replace Z' := hide (Below.step (unhide Z') B9 (Nat.le_refl _))
          clear B9 x0 x2 y0 y2 v0 v2 P7' P9' HS
          go_wp2_with fail
          refine (known_any _).mono ?_
          rintro e w10 ⟨rfl, B10⟩
          replace Z' := hide (Below.step (unhide Z') B10 (Nat.le_refl _))
          clear B10
          go_wp2_with fail
          go_ret
          exact ⟨rfl, unhide Z'⟩
        | true =>
          have hw2 := unhide hw
          rw [if_neg (by simp), hnil] at hw2
          subst hw2
          obtain rfl : 0 = nw := unhide hnw
          have HS := hide (same_yes a9 na c9 nc 0 [] rfl (by omega) wr (unhide P9').rw (fun k s hk => by simp at hk))
          clear hw hnil hM RW hnw
          go_wp2_with fail
          refine (unhide HS).mono ?_
          rintro e w9 ⟨rfl, B9⟩
          obtain ⟨p0, -, -⟩ := ((unhide P7').below B9).cells
          obtain ⟨q0, -, -⟩ := ((unhide P9').below B9).cells
          replace Z' := hide (Below.step (unhide Z') B9 (Nat.le_refl _))
          clear B9 x0 x2 y0 y2 P7' P9' HS
          go_wp2_with fail
          refine (known_any _).mono ?_
          rintro e w10 ⟨rfl, B10⟩
          replace Z' := hide (Below.step (unhide Z') B10 (Nat.le_refl _))
          clear B10
          go_wp2_with fail
          go_ret
          exact ⟨rfl, unhide Z'⟩
      · have hM1 : ¬ (M : Int) = 0 := by omega
        · have hw2 := unhide hw
          rw [if_neg (by intro h; have := unhide hM; rw [h.1] at this; simp at this; omega)] at hw2
          subst hw2
          obtain rfl : M = nw := (unhide hM).symm.trans (unhide hnw)
          have HS := hide (same_yes a9 na c9 nc M (nodots q) (unhide hM) (by omega) wr (unhide P9').rw (unhide RW))
          clear hw hM RW hnw
          go_wp2_with fail
          refine (unhide HS).mono ?_
          rintro e w9 ⟨rfl, B9⟩
          obtain ⟨p0, -, -⟩ := ((unhide P7').below B9).cells
          obtain ⟨q0, -, -⟩ := ((unhide P9').below B9).cells
          replace Z' := hide (Below.step (unhide Z') B9 (Nat.le_refl _))
          clear B9 x0 x2 y0 y2 P7' P9' HS
          go_wp2_with fail
          refine (known_any _).mono ?_
          rintro e w10 ⟨rfl, B10⟩
          replace Z' := hide (Below.step (unhide Z') B10 (Nat.le_refl _))
          clear B10
          go_wp2_with fail
          go_ret
          exact ⟨rfl, unhide Z'⟩
set_option maxRecDepth 100000 in
set_option maxHeartbeats 4000000 in
theorem cleans_no (l : List UInt8) (u1 : ¬ (6000 : Int) < (l.length : Int)) (he : ¬ err l = 0) (w : World) : Calls Try.prog 6 #[S l] w fun e w' => e = .returned (.bool true) ∧ Below w.heap.size w w' := by
  have hc : cl l = [] := by simp [cl, he]
  have K1 := hide (clean_E rfl hc (l := l))
  generalize err l = x at *
  clear hc
  go_enter Try.func6, Try.ntmps6
  go_wp2_with fail
  refine (unhide K1 _).mono ?_
  rintro e w1 ⟨rfl, B1⟩
  have Z := hide B1
  clear B1 K1
  go_wp2_with fail
  refine (known_any _).mono ?_
  rintro e w10 ⟨rfl, B10⟩
  replace Z := hide (Below.step (unhide Z) B10 (Nat.le_refl _))
  clear B10
  go_wp2_with fail
  go_ret
  exact ⟨rfl, unhide Z⟩
set_option maxRecDepth 100000 in
set_option maxHeartbeats 4000000 in
theorem cleans_cut (m l : List UInt8) (u1 : (6000 : Int) < (m.length : Int)) (x1 : (bs m).extract 0 6000 = bs l) (he : ¬ err l = 0) (w : World) : Calls Try.prog 6 #[S m] w fun e w' => e = .returned (.bool true) ∧ Below w.heap.size w w' := by
  have hc : cl l = [] := by simp [cl, he]
  have K1 := hide (clean_E rfl hc (l := l))
  generalize err l = x at *
  clear hc
  go_enter Try.func6, Try.ntmps6
  go_wp2_with fail
  refine (unhide K1 _).mono ?_
  rintro e w1 ⟨rfl, B1⟩
  have Z := hide B1
  clear B1 K1
  go_wp2_with fail
  refine (known_any _).mono ?_
  rintro e w10 ⟨rfl, B10⟩
  replace Z := hide (Below.step (unhide Z) B10 (Nat.le_refl _))
  clear B10
  go_wp2_with fail
  go_ret
  exact ⟨rfl, unhide Z⟩
theorem long_err {l : List UInt8} (h : 4096 < l.length) : err l = 45 := by
  unfold err
  rw [if_neg (by rintro rfl; simp at h), if_pos h]
theorem cleans_walk (a : ByteArray) (_ : a.size ≤ 9223372036854775807) (w : World) : Calls Try.prog 6 #[.string a] w fun e w' => e = .returned (.bool true) ∧ Below w.heap.size w w' := by
  obtain ⟨x, rfl⟩ : ∃ x, bs x = a := ⟨_, bs_data a⟩
  by_cases hx : x.length ≤ 6000
  · by_cases he : err x = 0
    · exact cleans_ok x he w
    · exact cleans_no x (by omega) he w
  · refine cleans_cut x (x.take 6000) (by omega) (by rw [extract_bs, List.drop_zero]) ?_ w
    rw [long_err (by simp; omega)]; omega
end Go.Proofs.Ytnhddendkolfeaa
