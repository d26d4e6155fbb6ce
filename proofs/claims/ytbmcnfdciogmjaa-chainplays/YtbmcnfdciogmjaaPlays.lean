/-
  ChainPlays: the walk.
-/
import Derived.Test.YtbmcnfdciogmjaaPlaysA
namespace Go.Proofs.Ytbmcnfdciogmjaa
open Go.RowKit Go.Sort
attribute [local go_sem ↓] Go.wp_at_zero Go.wp_at_succ

theorem dn_below (w : World) (q : Nat) : Below w.heap.size w (w.drewN q) := below_dn (Below.refl _ w) q
set_option maxRecDepth 100000 in
set_option maxHeartbeats 8000000 in
theorem plays_walk (n : Int) (pl : Option Addr) (lenl capl : Nat) (pa : Option Addr) (len cap : Nat) (w : World) (hA : AsksAt w pl lenl) (hK : StrsAt w pa len) :
    Calls Try.prog 4 #[.int .i64 n, .slice pl lenl capl, .slice pa len cap] w fun e w' => e = .returned (.bool true) ∧ Below w.heap.size w w' := by
  have hmax := hK.1
  have hmaxl := hA.1
  replace hK := hide hK
  replace hA := hide hA
  go_enter Try.func4, Try.ntmps4
  go_wp2_with fail
  go_loopw [7] (fun i wr => ∃ (k q : Nat), k ≤ 20 ∧ i = .int .i64 (k : Int) ∧ wr = w.drewN q) (fun i _ => 20 - (intOf i).toNat)
  case atStart => exact ⟨0, 0, by omega, rfl, rfl⟩
  case round =>
    obtain ⟨k, q, hk, rfl, rfl⟩ := hrel
    by_cases hg : k < len ∧ k < 20
    · obtain ⟨g1, g2⟩ := hg
      have q1 : (k : Int) < (len : Int) := by omega
      have q2 : (k : Int) < 20 := by omega
      have q0 : (0 : Int) ≤ (k : Int) := by omega
      obtain ⟨bb, off, s, rfl, hbb, hc, hs2⟩ := (unhide hK).2 k g1
      have HC := hide (fun w => hash_any s hs2 w)
      have HR := hide (fun w => rhash_any s hs2 w)
      generalize hash s = H at HC HR
      obtain ⟨wq, hwq⟩ : ∃ x, w.drewN q = x := ⟨_, rfl⟩
      rw [hwq]
      have hc2 : wq.cell? ⟨bb, off + k, none⟩ = some (.string s) := by rw [← hwq]; exact ((dn_below w q).cell hbb).trans hc
      replace hwq := hide hwq
      replace hK := hide hK
      clear hbb hs2 hc
      go_wp2_with fail
      go_quiet (first | (go_at_call 17; exact Calls.quiet_of_same (unhide HC _)) | (go_at_call 18; exact Calls.quiet_of_same (unhide HR _)))
      go_wp2_with fail
      refine ⟨⟨k + 1, q + nq, by omega, rfl, ?_⟩, by simp [intOf]; omega⟩
      rw [← unhide hwq, World.drewN_drewN]
    · have q3 : (k : Int) < (len : Int) → ¬ (k : Int) < 20 := fun h1 h2 => hg ⟨by omega, by omega⟩
      have HX : (¬ (k : Int) < (len : Int)) ∨ ((k : Int) < (len : Int) ∧ ¬ (k : Int) < 20) := by
        by_cases h1 : (k : Int) < (len : Int)
        · exact .inr ⟨h1, q3 h1⟩
        · exact .inl h1
      clear q3 hg
      rcases HX with q1 | ⟨q1, q2⟩
      · obtain ⟨w1, hw1⟩ : ∃ w1, w.drewN q = w1 := ⟨_, rfl⟩
        have HB0 := hide (show Below w.heap.size w w1 by rw [← hw1]; exact dn_below w q)
        have hA1 := hide (show AsksAt w1 pl lenl by rw [← hw1]; exact (unhide hA).below (dn_below w q))
        rw [hw1]
        clear hw1 hK hA
        by_cases n1 : n < 1
        · have K := hide (new_bad n (.inl n1) w1)
          go_wp2_with fail
          refine (unhide K).mono ?_
          rintro e w2 ⟨rfl, rfl⟩
          clear K
          go_wp2_with fail
          refine (known_any w2).mono ?_
          rintro e w3 ⟨rfl, B⟩
          replace B := hide B
          go_wp2_with fail
          go_ret
          exact ⟨rfl, (unhide HB0).trans ((unhide B).mono (unhide HB0).size)⟩

        · by_cases n2 : 64 < n
          · have K := hide (new_bad n (.inr n2) w1)
            go_wp2_with fail
            refine (unhide K).mono ?_
            rintro e w2 ⟨rfl, rfl⟩
            clear K
            go_wp2_with fail
            refine (known_any w2).mono ?_
            rintro e w3 ⟨rfl, B⟩
            replace B := hide B
            go_wp2_with fail
            go_ret
            exact ⟨rfl, (unhide HB0).trans ((unhide B).mono (unhide HB0).size)⟩

          · obtain ⟨nn, hn1, hn2, hnn⟩ : ∃ nn : Nat, 1 ≤ nn ∧ nn ≤ 64 ∧ n = (nn : Int) := ⟨n.toNat, by omega, by omega, by omega⟩
            subst hnn
            have K := hide (new_T nn hn1 hn2 w1)
            go_wp2_with fail
            refine (unhide K).mono ?_
            rintro e w2 ⟨bt, rfl, T2, -⟩
            have K2 := hide (rnew_any w2)
            replace T2 := hide T2
            clear K
            go_wp2_with fail
            refine (unhide K2).mono ?_
            rintro e w3 ⟨rfl, R3, B3⟩
            have T3 := hide ((unhide T2).below B3)
            have R4 := hide (R3.rebase (unhide T2).base_le)
            generalize w2.heap.size = rb at *
            clear K2 R3 B3 T2
            go_wp2_with fail
            go_loopw [11] (fun iv wr => ∃ (i : Nat) (m : Pairs), i ≤ 150 ∧ iv = .int .i64 (i : Int) ∧ Hid (Tbl w1.heap.size w1 wr bt nn m) ∧ Hid (Rf w1.heap.size wr rb m)) (fun iv _ => 150 - (intOf iv).toNat)
            case atStart => exact ⟨0, [], by omega, rfl, T3, R4⟩
            case round =>
              obtain ⟨i, m, hi, rfl, T, R⟩ := hrel
              clear T3 R4
              by_cases hg : i < lenl ∧ i < 150
              · obtain ⟨g1, g2⟩ := hg
                have z1 : (i : Int) < (lenl : Int) := by omega
                have z2 : (i : Int) < 150 := by omega
                have z0 : (0 : Int) ≤ (i : Int) := by omega
                obtain ⟨bb, off, kd, key, v, rfl, hbb, hc0, hc1, hc2, hs2⟩ := (unhide hA1).2 i g1
                have c0 := (cell_same ((unhide T).bel.block bb hbb) (off + i * 3)).trans hc0
                have c1 := (cell_same ((unhide T).bel.block bb hbb) (off + i * 3 + 1)).trans hc1
                have c2 := (cell_same ((unhide T).bel.block bb hbb) (off + i * 3 + 2)).trans hc2
                have hxk := putAll (w := wr) (.cells #[.int .i64 kd, .string key, .int .i64 v] 43) wr.heap.size rfl
                have hBx := (Below.refl wr.heap.size wr).alloc (Nat.le_refl _) (.cells #[.int .i64 kd, .string key, .int .i64 v] 43)
                have HP0 := hide (show CP w1 bt nn rb wr.heap.size kd key v (wr.alloc (.cells #[.int .i64 kd, .string key, .int .i64 v] 43)) m m from ⟨(unhide T).below hBx, (unhide R).below hBx, hxk⟩)
                have y0 : (wr.alloc (.cells #[.int .i64 kd, .string key, .int .i64 v] 43)).cell? ⟨wr.heap.size, 0, none⟩ = some (.int .i64 kd) := by rw [cell_of (unhide HP0).bo]; rfl
                obtain ⟨y1, y2⟩ := (unhide HP0).cs
                have HS := hide hs2
                clear hbb hc0 hc1 hc2 hs2 hBx hxk T R
                by_cases k1 : kd = 1
                · subst k1
                  have P1d := (unhide HP0).drew
                  obtain ⟨x1, x2⟩ := P1d.cs
                  have hml := P1d.tb.mlen
                  have HP1d := hide P1d
                  clear P1d HP0
                  go_wp2_with fail
                  go_region_held3 (fun w' => w'.cell? ⟨wr.heap.size, 1, none⟩ = some (.string key) ∧ w'.cell? ⟨wr.heap.size, 2, none⟩ = some (.int .i64 v)) (go_keep)
                    (first
                      | (go_at_call 10; refine (q_put (unhide HP1d) (unhide HS)).mono ?_; rintro e wy ⟨rfl, ⟨qy1, qy2⟩, HY⟩)
                      | (go_at_call 20; refine (q_rput (unhide HY) hml).mono ?_; rintro e wx ⟨rfl, ⟨qx1, qx2⟩, HX1⟩))
                  clear HY HP1d x1 x2 y0 y1 y2 c0 c1 c2 qy1 qy2 hml
                  generalize hmm : putM m key v = mm at *
                  clear hmm
                  generalize putE m key = pe at *
                  have K := hide (q_get (unhide HX1) (unhide HS))
                  clear HX1
                  go_wp2_with fail
                  refine (unhide K).mono ?_
                  rintro e wa ⟨rfl, ⟨a1, a2⟩, HXa⟩
                  have hml := (unhide HXa).tb.mlen
                  have K2 := hide (q_rget (unhide HXa) hml)
                  clear K
                  go_wp2_with fail
                  refine (unhide K2).mono ?_
                  rintro e wb ⟨rfl, ⟨b1, b2⟩, HXb⟩
                  have K3 := hide (len_T (unhide HXb).tb)
                  have K4 := hide (rlen_any _ rb _ wb (unhide HXb).rf)
                  clear K2 HXa a1 a2 b1 b2 hml
                  generalize val mm key = vv at *
                  generalize has mm key = hh at *
                  generalize mm.length = ll at *
                  go_wp2_with fail
                  refine (unhide K3).mono ?_
                  rintro e wc ⟨rfl, rfl⟩
                  go_wp2_with fail
                  refine (unhide K4).mono ?_
                  rintro e wd ⟨rfl, rfl⟩
                  go_wp2_with fail
                  exact ⟨⟨i + 1, mm, by omega, rfl, hide (unhide HXb).tb, hide (unhide HXb).rf⟩, by simp [intOf]; omega⟩

                · by_cases k2 : kd = 2
                  · subst k2
                    have hml := (unhide HP0).tb.mlen
                    have K := hide (q_drop (unhide HP0) (unhide HS))
                    clear HP0
                    go_wp2_with fail
                    refine (unhide K).mono ?_
                    rintro e wy ⟨rfl, ⟨x1, x2⟩, HY⟩
                    have K2 := hide (q_rdrop (unhide HY) hml)
                    clear K y0 y1 y2 c0 c1 c2
                    go_wp2_with fail
                    refine (unhide K2).mono ?_
                    rintro e wx ⟨rfl, ⟨qx1, qx2⟩, HX1⟩
                    clear K2 HY x1 x2 hml
                    generalize hmm : drop m key = mm at *
                    clear hmm
                    generalize val m key = v0 at *
                    generalize dropE m key = de at *
                    have K := hide (q_get (unhide HX1) (unhide HS))
                    clear HX1
                    go_wp2_with fail
                    refine (unhide K).mono ?_
                    rintro e wa ⟨rfl, ⟨a1, a2⟩, HXa⟩
                    have hml := (unhide HXa).tb.mlen
                    have K2 := hide (q_rget (unhide HXa) hml)
                    clear K
                    go_wp2_with fail
                    refine (unhide K2).mono ?_
                    rintro e wb ⟨rfl, ⟨b1, b2⟩, HXb⟩
                    have K3 := hide (len_T (unhide HXb).tb)
                    have K4 := hide (rlen_any _ rb _ wb (unhide HXb).rf)
                    clear K2 HXa a1 a2 b1 b2 hml
                    generalize val mm key = vv at *
                    generalize has mm key = hh at *
                    generalize mm.length = ll at *
                    go_wp2_with fail
                    refine (unhide K3).mono ?_
                    rintro e wc ⟨rfl, rfl⟩
                    go_wp2_with fail
                    refine (unhide K4).mono ?_
                    rintro e wd ⟨rfl, rfl⟩
                    go_wp2_with fail
                    exact ⟨⟨i + 1, mm, by omega, rfl, hide (unhide HXb).tb, hide (unhide HXb).rf⟩, by simp [intOf]; omega⟩

                  · have HX1 := HP0
                    clear HP0
                    generalize hmm : m = mm at *
                    clear hmm
                    have K := hide (q_get (unhide HX1) (unhide HS))
                    clear HX1
                    go_wp2_with fail
                    refine (unhide K).mono ?_
                    rintro e wa ⟨rfl, ⟨a1, a2⟩, HXa⟩
                    have hml := (unhide HXa).tb.mlen
                    have K2 := hide (q_rget (unhide HXa) hml)
                    clear K
                    go_wp2_with fail
                    refine (unhide K2).mono ?_
                    rintro e wb ⟨rfl, ⟨b1, b2⟩, HXb⟩
                    have K3 := hide (len_T (unhide HXb).tb)
                    have K4 := hide (rlen_any _ rb _ wb (unhide HXb).rf)
                    clear K2 HXa a1 a2 b1 b2 hml
                    generalize val mm key = vv at *
                    generalize has mm key = hh at *
                    generalize mm.length = ll at *
                    go_wp2_with fail
                    refine (unhide K3).mono ?_
                    rintro e wc ⟨rfl, rfl⟩
                    go_wp2_with fail
                    refine (unhide K4).mono ?_
                    rintro e wd ⟨rfl, rfl⟩
                    go_wp2_with fail
                    exact ⟨⟨i + 1, mm, by omega, rfl, hide (unhide HXb).tb, hide (unhide HXb).rf⟩, by simp [intOf]; omega⟩

              · have q' : (i : Int) < (lenl : Int) → ¬ (i : Int) < 150 := fun h1 h2 => hg ⟨by omega, by omega⟩
                have HX' : (¬ (i : Int) < (lenl : Int)) ∨ ((i : Int) < (lenl : Int) ∧ ¬ (i : Int) < 150) := by
                  by_cases h1 : (i : Int) < (lenl : Int)
                  · exact .inr ⟨h1, q' h1⟩
                  · exact .inl h1
                clear q' hg
                have hml := (unhide T).mlen
                have K1 := hide (keys_T (unhide T))
                rcases HX' with q' | ⟨q1', q2'⟩
                · go_wp2_with fail
                  refine (unhide K1).mono ?_
                  rintro e w4 ⟨g4, c4, rfl, O4, B4⟩
                  have K2 := hide (rkeys_any _ rb m w4 ((unhide R).below B4) hml)
                  have T5 := hide ((unhide T).below B4)
                  have RO := hide (RowO.of_own O4)
                  clear O4 B4 K1 T R
                  go_wp2_with fail
                  refine (unhide K2).mono ?_
                  rintro e w5 ⟨a5, c5, rfl, RO5, B5⟩
                  have K3 := hide (same_yes (some ⟨g4, 0, none⟩) a5 c4 c5 m.length ((ordered m).map ofB) (by rw [List.length_map]; exact ordered_len m) (by omega) w5 ((unhide RO).below B5) RO5)
                  have T6 := hide ((unhide T5).below B5)
                  clear RO5 B5 K2 T5 RO
                  generalize m.length = ll at *
                  go_wp2_with fail
                  refine (unhide K3).mono ?_
                  rintro e w6 ⟨rfl, B6⟩
                  have T7 := hide ((unhide T6).below B6)
                  have K4 := hide (known_any w6)
                  clear K3 B6 T6
                  go_wp2_with fail
                  refine (unhide K4).mono ?_
                  rintro e w7 ⟨rfl, B7⟩
                  have T8 := hide ((unhide T7).below B7)
                  go_wp2_with fail
                  go_ret
                  exact ⟨rfl, (unhide HB0).trans ((unhide T8).bel.mono (unhide HB0).size)⟩
                · go_wp2_with fail
                  refine (unhide K1).mono ?_
                  rintro e w4 ⟨g4, c4, rfl, O4, B4⟩
                  have K2 := hide (rkeys_any _ rb m w4 ((unhide R).below B4) hml)
                  have T5 := hide ((unhide T).below B4)
                  have RO := hide (RowO.of_own O4)
                  clear O4 B4 K1 T R
                  go_wp2_with fail
                  refine (unhide K2).mono ?_
                  rintro e w5 ⟨a5, c5, rfl, RO5, B5⟩
                  have K3 := hide (same_yes (some ⟨g4, 0, none⟩) a5 c4 c5 m.length ((ordered m).map ofB) (by rw [List.length_map]; exact ordered_len m) (by omega) w5 ((unhide RO).below B5) RO5)
                  have T6 := hide ((unhide T5).below B5)
                  clear RO5 B5 K2 T5 RO
                  generalize m.length = ll at *
                  go_wp2_with fail
                  refine (unhide K3).mono ?_
                  rintro e w6 ⟨rfl, B6⟩
                  have T7 := hide ((unhide T6).below B6)
                  have K4 := hide (known_any w6)
                  clear K3 B6 T6
                  go_wp2_with fail
                  refine (unhide K4).mono ?_
                  rintro e w7 ⟨rfl, B7⟩
                  have T8 := hide ((unhide T7).below B7)
                  go_wp2_with fail
                  go_ret
                  exact ⟨rfl, (unhide HB0).trans ((unhide T8).bel.mono (unhide HB0).size)⟩
      · obtain ⟨w1, hw1⟩ : ∃ w1, w.drewN q = w1 := ⟨_, rfl⟩
        have HB0 := hide (show Below w.heap.size w w1 by rw [← hw1]; exact dn_below w q)
        have hA1 := hide (show AsksAt w1 pl lenl by rw [← hw1]; exact (unhide hA).below (dn_below w q))
        rw [hw1]
        clear hw1 hK hA
        by_cases n1 : n < 1
        · have K := hide (new_bad n (.inl n1) w1)
          go_wp2_with fail
          refine (unhide K).mono ?_
          rintro e w2 ⟨rfl, rfl⟩
          clear K
          go_wp2_with fail
          refine (known_any w2).mono ?_
          rintro e w3 ⟨rfl, B⟩
          replace B := hide B
          go_wp2_with fail
          go_ret
          exact ⟨rfl, (unhide HB0).trans ((unhide B).mono (unhide HB0).size)⟩

        · by_cases n2 : 64 < n
          · have K := hide (new_bad n (.inr n2) w1)
            go_wp2_with fail
            refine (unhide K).mono ?_
            rintro e w2 ⟨rfl, rfl⟩
            clear K
            go_wp2_with fail
            refine (known_any w2).mono ?_
            rintro e w3 ⟨rfl, B⟩
            replace B := hide B
            go_wp2_with fail
            go_ret
            exact ⟨rfl, (unhide HB0).trans ((unhide B).mono (unhide HB0).size)⟩

          · obtain ⟨nn, hn1, hn2, hnn⟩ : ∃ nn : Nat, 1 ≤ nn ∧ nn ≤ 64 ∧ n = (nn : Int) := ⟨n.toNat, by omega, by omega, by omega⟩
            subst hnn
            have K := hide (new_T nn hn1 hn2 w1)
            go_wp2_with fail
            refine (unhide K).mono ?_
            rintro e w2 ⟨bt, rfl, T2, -⟩
            have K2 := hide (rnew_any w2)
            replace T2 := hide T2
            clear K
            go_wp2_with fail
            refine (unhide K2).mono ?_
            rintro e w3 ⟨rfl, R3, B3⟩
            have T3 := hide ((unhide T2).below B3)
            have R4 := hide (R3.rebase (unhide T2).base_le)
            generalize w2.heap.size = rb at *
            clear K2 R3 B3 T2
            go_wp2_with fail
            go_loopw [11] (fun iv wr => ∃ (i : Nat) (m : Pairs), i ≤ 150 ∧ iv = .int .i64 (i : Int) ∧ Hid (Tbl w1.heap.size w1 wr bt nn m) ∧ Hid (Rf w1.heap.size wr rb m)) (fun iv _ => 150 - (intOf iv).toNat)
            case atStart => exact ⟨0, [], by omega, rfl, T3, R4⟩
            case round =>
              obtain ⟨i, m, hi, rfl, T, R⟩ := hrel
              clear T3 R4
              by_cases hg : i < lenl ∧ i < 150
              · obtain ⟨g1, g2⟩ := hg
                have z1 : (i : Int) < (lenl : Int) := by omega
                have z2 : (i : Int) < 150 := by omega
                have z0 : (0 : Int) ≤ (i : Int) := by omega
                obtain ⟨bb, off, kd, key, v, rfl, hbb, hc0, hc1, hc2, hs2⟩ := (unhide hA1).2 i g1
                have c0 := (cell_same ((unhide T).bel.block bb hbb) (off + i * 3)).trans hc0
                have c1 := (cell_same ((unhide T).bel.block bb hbb) (off + i * 3 + 1)).trans hc1
                have c2 := (cell_same ((unhide T).bel.block bb hbb) (off + i * 3 + 2)).trans hc2
                have hxk := putAll (w := wr) (.cells #[.int .i64 kd, .string key, .int .i64 v] 43) wr.heap.size rfl
                have hBx := (Below.refl wr.heap.size wr).alloc (Nat.le_refl _) (.cells #[.int .i64 kd, .string key, .int .i64 v] 43)
                have HP0 := hide (show CP w1 bt nn rb wr.heap.size kd key v (wr.alloc (.cells #[.int .i64 kd, .string key, .int .i64 v] 43)) m m from ⟨(unhide T).below hBx, (unhide R).below hBx, hxk⟩)
                have y0 : (wr.alloc (.cells #[.int .i64 kd, .string key, .int .i64 v] 43)).cell? ⟨wr.heap.size, 0, none⟩ = some (.int .i64 kd) := by rw [cell_of (unhide HP0).bo]; rfl
                obtain ⟨y1, y2⟩ := (unhide HP0).cs
                have HS := hide hs2
                clear hbb hc0 hc1 hc2 hs2 hBx hxk T R
                by_cases k1 : kd = 1
                · subst k1
                  have P1d := (unhide HP0).drew
                  obtain ⟨x1, x2⟩ := P1d.cs
                  have hml := P1d.tb.mlen
                  have HP1d := hide P1d
                  clear P1d HP0
                  go_wp2_with fail
                  go_region_held3 (fun w' => w'.cell? ⟨wr.heap.size, 1, none⟩ = some (.string key) ∧ w'.cell? ⟨wr.heap.size, 2, none⟩ = some (.int .i64 v)) (go_keep)
                    (first
                      | (go_at_call 10; refine (q_put (unhide HP1d) (unhide HS)).mono ?_; rintro e wy ⟨rfl, ⟨qy1, qy2⟩, HY⟩)
                      | (go_at_call 20; refine (q_rput (unhide HY) hml).mono ?_; rintro e wx ⟨rfl, ⟨qx1, qx2⟩, HX1⟩))
                  clear HY HP1d x1 x2 y0 y1 y2 c0 c1 c2 qy1 qy2 hml
                  generalize hmm : putM m key v = mm at *
                  clear hmm
                  generalize putE m key = pe at *
                  have K := hide (q_get (unhide HX1) (unhide HS))
                  clear HX1
                  go_wp2_with fail
                  refine (unhide K).mono ?_
                  rintro e wa ⟨rfl, ⟨a1, a2⟩, HXa⟩
                  have hml := (unhide HXa).tb.mlen
                  have K2 := hide (q_rget (unhide HXa) hml)
                  clear K
                  go_wp2_with fail
                  refine (unhide K2).mono ?_
                  rintro e wb ⟨rfl, ⟨b1, b2⟩, HXb⟩
                  have K3 := hide (len_T (unhide HXb).tb)
                  have K4 := hide (rlen_any _ rb _ wb (unhide HXb).rf)
                  clear K2 HXa a1 a2 b1 b2 hml
                  generalize val mm key = vv at *
                  generalize has mm key = hh at *
                  generalize mm.length = ll at *
                  go_wp2_with fail
                  refine (unhide K3).mono ?_
                  rintro e wc ⟨rfl, rfl⟩
                  go_wp2_with fail
                  refine (unhide K4).mono ?_
                  rintro e wd ⟨rfl, rfl⟩
                  go_wp2_with fail
                  exact ⟨⟨i + 1, mm, by omega, rfl, hide (unhide HXb).tb, hide (unhide HXb).rf⟩, by simp [intOf]; omega⟩

                · by_cases k2 : kd = 2
                  · subst k2
                    have hml := (unhide HP0).tb.mlen
                    have K := hide (q_drop (unhide HP0) (unhide HS))
                    clear HP0
                    go_wp2_with fail
                    refine (unhide K).mono ?_
                    rintro e wy ⟨rfl, ⟨x1, x2⟩, HY⟩
                    have K2 := hide (q_rdrop (unhide HY) hml)
                    clear K y0 y1 y2 c0 c1 c2
                    go_wp2_with fail
                    refine (unhide K2).mono ?_
                    rintro e wx ⟨rfl, ⟨qx1, qx2⟩, HX1⟩
                    clear K2 HY x1 x2 hml
                    generalize hmm : drop m key = mm at *
                    clear hmm
                    generalize val m key = v0 at *
                    generalize dropE m key = de at *
                    have K := hide (q_get (unhide HX1) (unhide HS))
                    clear HX1
                    go_wp2_with fail
                    refine (unhide K).mono ?_
                    rintro e wa ⟨rfl, ⟨a1, a2⟩, HXa⟩
                    have hml := (unhide HXa).tb.mlen
                    have K2 := hide (q_rget (unhide HXa) hml)
                    clear K
                    go_wp2_with fail
                    refine (unhide K2).mono ?_
                    rintro e wb ⟨rfl, ⟨b1, b2⟩, HXb⟩
                    have K3 := hide (len_T (unhide HXb).tb)
                    have K4 := hide (rlen_any _ rb _ wb (unhide HXb).rf)
                    clear K2 HXa a1 a2 b1 b2 hml
                    generalize val mm key = vv at *
                    generalize has mm key = hh at *
                    generalize mm.length = ll at *
                    go_wp2_with fail
                    refine (unhide K3).mono ?_
                    rintro e wc ⟨rfl, rfl⟩
                    go_wp2_with fail
                    refine (unhide K4).mono ?_
                    rintro e wd ⟨rfl, rfl⟩
                    go_wp2_with fail
                    exact ⟨⟨i + 1, mm, by omega, rfl, hide (unhide HXb).tb, hide (unhide HXb).rf⟩, by simp [intOf]; omega⟩

                  · have HX1 := HP0
                    clear HP0
                    generalize hmm : m = mm at *
                    clear hmm
                    have K := hide (q_get (unhide HX1) (unhide HS))
                    clear HX1
                    go_wp2_with fail
                    refine (unhide K).mono ?_
                    rintro e wa ⟨rfl, ⟨a1, a2⟩, HXa⟩
                    have hml := (unhide HXa).tb.mlen
                    have K2 := hide (q_rget (unhide HXa) hml)
                    clear K
                    go_wp2_with fail
                    refine (unhide K2).mono ?_
                    rintro e wb ⟨rfl, ⟨b1, b2⟩, HXb⟩
                    have K3 := hide (len_T (unhide HXb).tb)
                    have K4 := hide (rlen_any _ rb _ wb (unhide HXb).rf)
                    clear K2 HXa a1 a2 b1 b2 hml
                    generalize val mm key = vv at *
                    generalize has mm key = hh at *
                    generalize mm.length = ll at *
                    go_wp2_with fail
                    refine (unhide K3).mono ?_
                    rintro e wc ⟨rfl, rfl⟩
                    go_wp2_with fail
                    refine (unhide K4).mono ?_
                    rintro e wd ⟨rfl, rfl⟩
                    go_wp2_with fail
                    exact ⟨⟨i + 1, mm, by omega, rfl, hide (unhide HXb).tb, hide (unhide HXb).rf⟩, by simp [intOf]; omega⟩

              · have q' : (i : Int) < (lenl : Int) → ¬ (i : Int) < 150 := fun h1 h2 => hg ⟨by omega, by omega⟩
                have HX' : (¬ (i : Int) < (lenl : Int)) ∨ ((i : Int) < (lenl : Int) ∧ ¬ (i : Int) < 150) := by
                  by_cases h1 : (i : Int) < (lenl : Int)
                  · exact .inr ⟨h1, q' h1⟩
                  · exact .inl h1
                clear q' hg
                have hml := (unhide T).mlen
                have K1 := hide (keys_T (unhide T))
                rcases HX' with q' | ⟨q1', q2'⟩
                · go_wp2_with fail
                  refine (unhide K1).mono ?_
                  rintro e w4 ⟨g4, c4, rfl, O4, B4⟩
                  have K2 := hide (rkeys_any _ rb m w4 ((unhide R).below B4) hml)
                  have T5 := hide ((unhide T).below B4)
                  have RO := hide (RowO.of_own O4)
                  clear O4 B4 K1 T R
                  go_wp2_with fail
                  refine (unhide K2).mono ?_
                  rintro e w5 ⟨a5, c5, rfl, RO5, B5⟩
                  have K3 := hide (same_yes (some ⟨g4, 0, none⟩) a5 c4 c5 m.length ((ordered m).map ofB) (by rw [List.length_map]; exact ordered_len m) (by omega) w5 ((unhide RO).below B5) RO5)
                  have T6 := hide ((unhide T5).below B5)
                  clear RO5 B5 K2 T5 RO
                  generalize m.length = ll at *
                  go_wp2_with fail
                  refine (unhide K3).mono ?_
                  rintro e w6 ⟨rfl, B6⟩
                  have T7 := hide ((unhide T6).below B6)
                  have K4 := hide (known_any w6)
                  clear K3 B6 T6
                  go_wp2_with fail
                  refine (unhide K4).mono ?_
                  rintro e w7 ⟨rfl, B7⟩
                  have T8 := hide ((unhide T7).below B7)
                  go_wp2_with fail
                  go_ret
                  exact ⟨rfl, (unhide HB0).trans ((unhide T8).bel.mono (unhide HB0).size)⟩
                · go_wp2_with fail
                  refine (unhide K1).mono ?_
                  rintro e w4 ⟨g4, c4, rfl, O4, B4⟩
                  have K2 := hide (rkeys_any _ rb m w4 ((unhide R).below B4) hml)
                  have T5 := hide ((unhide T).below B4)
                  have RO := hide (RowO.of_own O4)
                  clear O4 B4 K1 T R
                  go_wp2_with fail
                  refine (unhide K2).mono ?_
                  rintro e w5 ⟨a5, c5, rfl, RO5, B5⟩
                  have K3 := hide (same_yes (some ⟨g4, 0, none⟩) a5 c4 c5 m.length ((ordered m).map ofB) (by rw [List.length_map]; exact ordered_len m) (by omega) w5 ((unhide RO).below B5) RO5)
                  have T6 := hide ((unhide T5).below B5)
                  clear RO5 B5 K2 T5 RO
                  generalize m.length = ll at *
                  go_wp2_with fail
                  refine (unhide K3).mono ?_
                  rintro e w6 ⟨rfl, B6⟩
                  have T7 := hide ((unhide T6).below B6)
                  have K4 := hide (known_any w6)
                  clear K3 B6 T6
                  go_wp2_with fail
                  refine (unhide K4).mono ?_
                  rintro e w7 ⟨rfl, B7⟩
                  have T8 := hide ((unhide T7).below B7)
                  go_wp2_with fail
                  go_ret
                  exact ⟨rfl, (unhide HB0).trans ((unhide T8).bel.mono (unhide HB0).size)⟩
end Go.Proofs.Ytbmcnfdciogmjaa
