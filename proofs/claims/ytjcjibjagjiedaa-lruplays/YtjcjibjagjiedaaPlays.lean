/-
  LruPlays: the walk.
-/
import Derived.Test.YtjcjibjagjiedaaPlaysA
import Derived.Test.YtjcjibjagjiedaaIn
namespace Go.Proofs.Ytjcjibjagjiedaa
open Go.RowKit
attribute [local go_sem ↓] Go.wp_at_zero Go.wp_at_succ

theorem Rl.rebase {base base' : Nat} {W : World} {b : Nat} {mo : Int} {es : Ents} (h : Rl base' W b mo es) (hb : base ≤ base') : Rl base W b mo es := by
  obtain ⟨a, cap, h1, h2⟩ := h.hb
  exact ⟨⟨a, cap, h1, own_base h2 hb⟩, Nat.le_trans hb h.kb⟩
set_option maxRecDepth 100000 in
set_option maxHeartbeats 1000000 in
theorem plays_bad (n : Int) (pa : Option Addr) (len cap : Nat) (w : World) (hn : n < 1 ∨ 64 < n) :
    Calls Try.prog 4 #[.int .i64 n, .slice pa len cap] w fun e w' => e = .returned (.bool true) ∧ Below w.heap.size w w' := by
  have HN := hide (new_bad n hn w)
  by_cases h1 : n < 1
  · clear hn
    go_enter Try.func4, Try.ntmps4
    go_wp2_with fail
    refine (unhide HN).mono ?_
    rintro e w1 ⟨rfl, rfl⟩
    go_wp2_with fail
    refine (known_any w1).mono ?_
    rintro e w2 ⟨rfl, hB⟩
    go_wp2_with fail
    go_ret
    exact ⟨rfl, hB⟩
  · have h2 : 64 < n := by omega
    clear hn
    go_enter Try.func4, Try.ntmps4
    go_wp2_with fail
    refine (unhide HN).mono ?_
    rintro e w1 ⟨rfl, rfl⟩
    go_wp2_with fail
    refine (known_any w1).mono ?_
    rintro e w2 ⟨rfl, hB⟩
    go_wp2_with fail
    go_ret
    exact ⟨rfl, hB⟩
set_option maxRecDepth 100000 in
set_option maxHeartbeats 8000000 in
theorem plays_good (n : Int) (pa : Option Addr) (len cap : Nat) (w : World) (hn1 : ¬ n < 1) (hn2 : ¬ 64 < n) (hK : AsksAt w pa len) :
    Calls Try.prog 4 #[.int .i64 n, .slice pa len cap] w fun e w' => e = .returned (.bool true) ∧ Below w.heap.size w w' := by
  have hmax := hK.1
  replace hK := hide hK
  have K1 := hide (new_good n hn1 hn2 w)
  go_enter Try.func4, Try.ntmps4
  go_wp2_with fail
  refine (unhide K1).mono ?_
  rintro e w1 ⟨rfl, L1, B1⟩
  have K2 := hide (rnew_any n w1)
  have HL1 := hide L1
  have HB1 := hide B1
  generalize hb : w.heap.size = b at *
  have Hb := hide hb
  clear hb L1 B1 K1
  go_wp2_with fail
  refine (unhide K2).mono ?_
  rintro e w2 ⟨rfl, R2, B2⟩
  have L2 := hide ((unhide HL1).below B2)
  have R3 := hide (R2.rebase (show b ≤ w1.heap.size from (unhide HL1).base_le))
  have B3 := hide ((unhide HB1).trans (B2.mono (unhide HL1).base_le))
  generalize w1.heap.size = rb at *
  clear R2 B2 K2 HL1 HB1
  go_wp2_with fail
  go_loopw [8] (fun i wr => ∃ (k : Nat) (es : Ents), k ≤ 150 ∧ i = .int .i64 (k : Int) ∧ Hid (Iv k es) ∧ Hid (Ls b wr b n es) ∧ Hid (Rl b wr rb n es) ∧ Hid (Below b w wr)) (fun i _ => 150 - (intOf i).toNat)
  case atStart => exact ⟨0, [], by omega, rfl, hide ⟨Fit.nil 0, Uni.nil⟩, L2, R3, B3⟩
  case round =>
    obtain ⟨k, es, hk, rfl, I, L, R, B⟩ := hrel
    clear L2 R3 B3
    by_cases hg : k < len ∧ k < 150
    · obtain ⟨g1, g2⟩ := hg
      have q1 : (k : Int) < (len : Int) := by omega
      have q2 : (k : Int) < 150 := by omega
      have q0 : (0 : Int) ≤ (k : Int) := by omega
      obtain ⟨bb, off, kd, nn, key, rfl, hbb, hc0, hc1, hc2, hs2⟩ := (unhide hK).2 k g1
      have hbb2 : bb < b := by rw [← unhide Hb]; exact hbb
      have c0 := (cell_same ((unhide B).block bb hbb2) (off + k * 3)).trans hc0
      have c1 := (cell_same ((unhide B).block bb hbb2) (off + k * 3 + 1)).trans hc1
      have c2 := (cell_same ((unhide B).block bb hbb2) (off + k * 3 + 2)).trans hc2
      have hxk := putAll (w := wr) (.cells #[.int .i64 kd, .int .i64 nn, .string key] 38) wr.heap.size rfl
      have hBx := (Below.refl wr.heap.size wr).alloc (Nat.le_refl _) (.cells #[.int .i64 kd, .int .i64 nn, .string key] 38)
      have P0 : PP w b rb n wr.heap.size kd nn key (wr.alloc (.cells #[.int .i64 kd, .int .i64 nn, .string key] 38)) es es := by
        refine ⟨?_, ?_, hxk, ?_⟩
        · rw [unhide Hb]; exact (unhide L).below hBx
        · rw [unhide Hb]; exact (unhide R).below hBx
        · rw [unhide Hb]; exact (unhide B).trans (hBx.mono (unhide L).base_le)
      have HP0 := hide P0
      clear hbb hc0 hc1 hc2 hs2 hbb2 P0 hBx hxk L R B
      have y0 : (wr.alloc (.cells #[.int .i64 kd, .int .i64 nn, .string key] 38)).cell? ⟨wr.heap.size, 0, none⟩ = some (.int .i64 kd) := by rw [cell_of (unhide HP0).bo]; rfl
      have y1 := (unhide HP0).c1
      have y2 := (unhide HP0).c2
      by_cases k1 : kd = 1
      · subst k1
        obtain ⟨us, ub, ue, hu⟩ : ∃ a b c, useS n es key = (a, b, c) := ⟨_, _, _, rfl⟩
        have I9 := (unhide I).use (mo := n) key
        have K := q_use (unhide HP0) (unhide I) (by omega)
        rw [hu] at I9 K
        replace I9 := hide I9
        replace K := hide K
        have HU := hide hu
        clear hu
        go_wp2_with fail
        refine (unhide K).mono ?_
        rintro e wy ⟨rfl, ⟨x1, x2⟩, HY⟩
        have K := q_ruse (unhide HY) (unhide I) (by omega)
        rw [unhide HU] at K
        replace K := hide K
        clear HY HP0 y0 y1 y2 c0 c1 c2
        go_wp2_with fail
        refine (unhide K).mono ?_
        rintro e wx ⟨rfl, ⟨x1', x2'⟩, HX⟩
        clear K x1 x2 x1' x2' I HU
        have hol := hide (show (olds (ue) nn).length ≤ 1000 by have := olds_le (ue) nn; have := (unhide I9).fit.len; omega)
        generalize hes9 : ue = es9 at *
        clear hes9

        have hl9 := (unhide I9).fit.len
        have P9d := (unhide HX).drew
        obtain ⟨z1, z2⟩ := P9d.cs
        have H9 := hide P9d
        clear P9d HX
        go_wp2_with fail
        go_region_held3 (fun w' => w'.cell? ⟨wr.heap.size, 1, none⟩ = some (.int .i64 nn) ∧ w'.cell? ⟨wr.heap.size, 2, none⟩ = some (.string key)) (go_keep)
          (first
            | (go_at_call 11; refine (q_len (unhide H9)).mono ?_; rintro e wa ⟨rfl, ⟨qa1, qa2⟩, HA⟩)
            | (go_at_call 24; refine (q_rlen (unhide HA)).mono ?_; rintro e wb ⟨rfl, ⟨qb1, qb2⟩, HB⟩)
            | (go_at_call 25; refine (q_has (unhide HB) (unhide I9) (by omega)).mono ?_; rintro e wc ⟨rfl, ⟨qc1, qc2⟩, HC⟩)
            | (go_at_call 26; refine (q_rhas (unhide HC) (unhide I9) (by omega)).mono ?_; rintro e wd ⟨rfl, ⟨qd1, qd2⟩, HD⟩)
            | (go_at_call 14; refine (q_old (unhide HD) (unhide I9) (by omega) nn).mono ?_; rintro e we ⟨ea, ec, rfl, ⟨qe1, qe2⟩, HE⟩)
            | (go_at_call 27; refine (q_rold (unhide HE) (unhide I9) (by omega) nn).mono ?_; rintro e wf ⟨fa, fc, rfl, ⟨qf1, qf2⟩, HF⟩)
            | (go_at_call 15; refine (q_same (unhide HF) rfl (unhide hol)).mono ?_; rintro e wz ⟨rfl, ⟨qz1, qz2⟩, HZ⟩))
        all_goals
          go_wp2_with fail
          go_roundw
        all_goals first
          | exact ⟨k + 1, _, by omega, by go_num, I9, hide (by have := (unhide HZ).ls; rw [unhide Hb] at this; exact this), hide (by have := (unhide HZ).rl; rw [unhide Hb] at this; exact this), hide (by have := (unhide HZ).be; rw [unhide Hb] at this; exact this)⟩
          | (simp [intOf]; omega)
      · by_cases k2 : kd = 2
        · subst k2
          have I9 := hide ((unhide I).drop key)
          have P1d := (unhide HP0).drew
          obtain ⟨x1, x2⟩ := P1d.cs
          have HP1d := hide P1d
          clear P1d HP0
          go_wp2_with fail
          go_region_held3 (fun w' => w'.cell? ⟨wr.heap.size, 1, none⟩ = some (.int .i64 nn) ∧ w'.cell? ⟨wr.heap.size, 2, none⟩ = some (.string key)) (go_keep)
            (first
              | (go_at_call 16; refine (q_drop (unhide HP1d) (unhide I) (by omega)).mono ?_; rintro e wy ⟨rfl, ⟨qy1, qy2⟩, HY⟩)
              | (go_at_call 20; refine (q_rdrop (unhide HY) (unhide I) (by omega)).mono ?_; rintro e wx ⟨rfl, ⟨qx1, qx2⟩, HX⟩))
          clear HY HP1d x1 x2 y0 y1 y2 c0 c1 c2 qy1 qy2 qx1 qx2 I
          have hol := hide (show (olds (dropM es key) nn).length ≤ 1000 by have := olds_le (dropM es key) nn; have := (unhide I9).fit.len; omega)
          generalize hes9 : dropM es key = es9 at *
          clear hes9

          have hl9 := (unhide I9).fit.len
          have P9d := (unhide HX).drew
          obtain ⟨z1, z2⟩ := P9d.cs
          have H9 := hide P9d
          clear P9d HX
          go_wp2_with fail
          go_region_held3 (fun w' => w'.cell? ⟨wr.heap.size, 1, none⟩ = some (.int .i64 nn) ∧ w'.cell? ⟨wr.heap.size, 2, none⟩ = some (.string key)) (go_keep)
            (first
              | (go_at_call 11; refine (q_len (unhide H9)).mono ?_; rintro e wa ⟨rfl, ⟨qa1, qa2⟩, HA⟩)
              | (go_at_call 24; refine (q_rlen (unhide HA)).mono ?_; rintro e wb ⟨rfl, ⟨qb1, qb2⟩, HB⟩)
              | (go_at_call 25; refine (q_has (unhide HB) (unhide I9) (by omega)).mono ?_; rintro e wc ⟨rfl, ⟨qc1, qc2⟩, HC⟩)
              | (go_at_call 26; refine (q_rhas (unhide HC) (unhide I9) (by omega)).mono ?_; rintro e wd ⟨rfl, ⟨qd1, qd2⟩, HD⟩)
              | (go_at_call 14; refine (q_old (unhide HD) (unhide I9) (by omega) nn).mono ?_; rintro e we ⟨ea, ec, rfl, ⟨qe1, qe2⟩, HE⟩)
              | (go_at_call 27; refine (q_rold (unhide HE) (unhide I9) (by omega) nn).mono ?_; rintro e wf ⟨fa, fc, rfl, ⟨qf1, qf2⟩, HF⟩)
              | (go_at_call 15; refine (q_same (unhide HF) rfl (unhide hol)).mono ?_; rintro e wz ⟨rfl, ⟨qz1, qz2⟩, HZ⟩))
          all_goals
            go_wp2_with fail
            go_roundw
          all_goals first
            | exact ⟨k + 1, _, by omega, by go_num, I9, hide (by have := (unhide HZ).ls; rw [unhide Hb] at this; exact this), hide (by have := (unhide HZ).rl; rw [unhide Hb] at this; exact this), hide (by have := (unhide HZ).be; rw [unhide Hb] at this; exact this)⟩
            | (simp [intOf]; omega)
        · by_cases k3 : kd = 3
          · subst k3
            have I9 := hide ((unhide I).pin key)
            have P1d := (unhide HP0).drew
            obtain ⟨x1, x2⟩ := P1d.cs
            have HP1d := hide P1d
            clear P1d HP0
            go_wp2_with fail
            go_region_held3 (fun w' => w'.cell? ⟨wr.heap.size, 1, none⟩ = some (.int .i64 nn) ∧ w'.cell? ⟨wr.heap.size, 2, none⟩ = some (.string key)) (go_keep)
              (first
                | (go_at_call 10; refine (q_pin (unhide HP1d) (unhide I) (by omega)).mono ?_; rintro e wy ⟨rfl, ⟨qy1, qy2⟩, HY⟩)
                | (go_at_call 21; refine (q_rpin (unhide HY) (unhide I) (by omega)).mono ?_; rintro e wx ⟨rfl, ⟨qx1, qx2⟩, HX⟩))
            clear HY HP1d x1 x2 y0 y1 y2 c0 c1 c2 qy1 qy2 qx1 qx2 I
            have hol := hide (show (olds (pinM es key) nn).length ≤ 1000 by have := olds_le (pinM es key) nn; have := (unhide I9).fit.len; omega)
            generalize hes9 : pinM es key = es9 at *
            clear hes9

            have hl9 := (unhide I9).fit.len
            have P9d := (unhide HX).drew
            obtain ⟨z1, z2⟩ := P9d.cs
            have H9 := hide P9d
            clear P9d HX
            go_wp2_with fail
            go_region_held3 (fun w' => w'.cell? ⟨wr.heap.size, 1, none⟩ = some (.int .i64 nn) ∧ w'.cell? ⟨wr.heap.size, 2, none⟩ = some (.string key)) (go_keep)
              (first
                | (go_at_call 11; refine (q_len (unhide H9)).mono ?_; rintro e wa ⟨rfl, ⟨qa1, qa2⟩, HA⟩)
                | (go_at_call 24; refine (q_rlen (unhide HA)).mono ?_; rintro e wb ⟨rfl, ⟨qb1, qb2⟩, HB⟩)
                | (go_at_call 25; refine (q_has (unhide HB) (unhide I9) (by omega)).mono ?_; rintro e wc ⟨rfl, ⟨qc1, qc2⟩, HC⟩)
                | (go_at_call 26; refine (q_rhas (unhide HC) (unhide I9) (by omega)).mono ?_; rintro e wd ⟨rfl, ⟨qd1, qd2⟩, HD⟩)
                | (go_at_call 14; refine (q_old (unhide HD) (unhide I9) (by omega) nn).mono ?_; rintro e we ⟨ea, ec, rfl, ⟨qe1, qe2⟩, HE⟩)
                | (go_at_call 27; refine (q_rold (unhide HE) (unhide I9) (by omega) nn).mono ?_; rintro e wf ⟨fa, fc, rfl, ⟨qf1, qf2⟩, HF⟩)
                | (go_at_call 15; refine (q_same (unhide HF) rfl (unhide hol)).mono ?_; rintro e wz ⟨rfl, ⟨qz1, qz2⟩, HZ⟩))
            all_goals
              go_wp2_with fail
              go_roundw
            all_goals first
              | exact ⟨k + 1, _, by omega, by go_num, I9, hide (by have := (unhide HZ).ls; rw [unhide Hb] at this; exact this), hide (by have := (unhide HZ).rl; rw [unhide Hb] at this; exact this), hide (by have := (unhide HZ).be; rw [unhide Hb] at this; exact this)⟩
              | (simp [intOf]; omega)
          · by_cases k4 : kd = 4
            · subst k4
              have I9 := hide ((unhide I).unpin key)
              have P1d := (unhide HP0).drew
              obtain ⟨x1, x2⟩ := P1d.cs
              have HP1d := hide P1d
              clear P1d HP0
              go_wp2_with fail
              go_region_held3 (fun w' => w'.cell? ⟨wr.heap.size, 1, none⟩ = some (.int .i64 nn) ∧ w'.cell? ⟨wr.heap.size, 2, none⟩ = some (.string key)) (go_keep)
                (first
                  | (go_at_call 13; refine (q_unpin (unhide HP1d) (unhide I) (by omega)).mono ?_; rintro e wy ⟨rfl, ⟨qy1, qy2⟩, HY⟩)
                  | (go_at_call 22; refine (q_runpin (unhide HY) (unhide I) (by omega)).mono ?_; rintro e wx ⟨rfl, ⟨qx1, qx2⟩, HX⟩))
              clear HY HP1d x1 x2 y0 y1 y2 c0 c1 c2 qy1 qy2 qx1 qx2 I
              have hol := hide (show (olds (unpinM es key) nn).length ≤ 1000 by have := olds_le (unpinM es key) nn; have := (unhide I9).fit.len; omega)
              generalize hes9 : unpinM es key = es9 at *
              clear hes9

              have hl9 := (unhide I9).fit.len
              have P9d := (unhide HX).drew
              obtain ⟨z1, z2⟩ := P9d.cs
              have H9 := hide P9d
              clear P9d HX
              go_wp2_with fail
              go_region_held3 (fun w' => w'.cell? ⟨wr.heap.size, 1, none⟩ = some (.int .i64 nn) ∧ w'.cell? ⟨wr.heap.size, 2, none⟩ = some (.string key)) (go_keep)
                (first
                  | (go_at_call 11; refine (q_len (unhide H9)).mono ?_; rintro e wa ⟨rfl, ⟨qa1, qa2⟩, HA⟩)
                  | (go_at_call 24; refine (q_rlen (unhide HA)).mono ?_; rintro e wb ⟨rfl, ⟨qb1, qb2⟩, HB⟩)
                  | (go_at_call 25; refine (q_has (unhide HB) (unhide I9) (by omega)).mono ?_; rintro e wc ⟨rfl, ⟨qc1, qc2⟩, HC⟩)
                  | (go_at_call 26; refine (q_rhas (unhide HC) (unhide I9) (by omega)).mono ?_; rintro e wd ⟨rfl, ⟨qd1, qd2⟩, HD⟩)
                  | (go_at_call 14; refine (q_old (unhide HD) (unhide I9) (by omega) nn).mono ?_; rintro e we ⟨ea, ec, rfl, ⟨qe1, qe2⟩, HE⟩)
                  | (go_at_call 27; refine (q_rold (unhide HE) (unhide I9) (by omega) nn).mono ?_; rintro e wf ⟨fa, fc, rfl, ⟨qf1, qf2⟩, HF⟩)
                  | (go_at_call 15; refine (q_same (unhide HF) rfl (unhide hol)).mono ?_; rintro e wz ⟨rfl, ⟨qz1, qz2⟩, HZ⟩))
              all_goals
                go_wp2_with fail
                go_roundw
              all_goals first
                | exact ⟨k + 1, _, by omega, by go_num, I9, hide (by have := (unhide HZ).ls; rw [unhide Hb] at this; exact this), hide (by have := (unhide HZ).rl; rw [unhide Hb] at this; exact this), hide (by have := (unhide HZ).be; rw [unhide Hb] at this; exact this)⟩
                | (simp [intOf]; omega)
            · have I9 := hide ((unhide I).shr nn)
              have hsl := shr_len nn es
              have hil := (unhide I).fit.len
              have hgl := hide (show (shr nn es).1.length ≤ 1000 by omega)
              clear hsl hil
              have P1d := (unhide HP0).drew
              obtain ⟨x1, x2⟩ := P1d.cs
              have HP1d := hide P1d
              clear P1d HP0
              go_wp2_with fail
              go_region_held3 (fun w' => w'.cell? ⟨wr.heap.size, 1, none⟩ = some (.int .i64 nn) ∧ w'.cell? ⟨wr.heap.size, 2, none⟩ = some (.string key)) (go_keep)
                (first
                  | (go_at_call 12; refine (q_shrink (unhide HP1d) (unhide I) (by omega)).mono ?_; rintro e wy ⟨ya, yc, rfl, ⟨qy1, qy2⟩, HY⟩)
                  | (go_at_call 23; refine (q_rshrink (unhide HY) (unhide I) (by omega)).mono ?_; rintro e wv ⟨va, vc, rfl, ⟨qv1, qv2⟩, HV⟩)
                  | (go_at_call 15; refine (q_same (unhide HV) rfl (unhide hgl)).mono ?_; rintro e wx ⟨rfl, ⟨qx1, qx2⟩, HX⟩))
              clear HY HV HP1d x1 x2 y0 y1 y2 c0 c1 c2 qy1 qy2 qx1 qx2 qv1 qv2 I
              have hol := hide (show (olds ((shr nn es).2) nn).length ≤ 1000 by have := olds_le ((shr nn es).2) nn; have := (unhide I9).fit.len; omega)
              generalize hes9 : (shr nn es).2 = es9 at *
              clear hes9

              have hl9 := (unhide I9).fit.len
              have P9d := (unhide HX).drew
              obtain ⟨z1, z2⟩ := P9d.cs
              have H9 := hide P9d
              clear P9d HX
              go_wp2_with fail
              go_region_held3 (fun w' => w'.cell? ⟨wr.heap.size, 1, none⟩ = some (.int .i64 nn) ∧ w'.cell? ⟨wr.heap.size, 2, none⟩ = some (.string key)) (go_keep)
                (first
                  | (go_at_call 11; refine (q_len (unhide H9)).mono ?_; rintro e wa ⟨rfl, ⟨qa1, qa2⟩, HA⟩)
                  | (go_at_call 24; refine (q_rlen (unhide HA)).mono ?_; rintro e wb ⟨rfl, ⟨qb1, qb2⟩, HB⟩)
                  | (go_at_call 25; refine (q_has (unhide HB) (unhide I9) (by omega)).mono ?_; rintro e wc ⟨rfl, ⟨qc1, qc2⟩, HC⟩)
                  | (go_at_call 26; refine (q_rhas (unhide HC) (unhide I9) (by omega)).mono ?_; rintro e wd ⟨rfl, ⟨qd1, qd2⟩, HD⟩)
                  | (go_at_call 14; refine (q_old (unhide HD) (unhide I9) (by omega) nn).mono ?_; rintro e we ⟨ea, ec, rfl, ⟨qe1, qe2⟩, HE⟩)
                  | (go_at_call 27; refine (q_rold (unhide HE) (unhide I9) (by omega) nn).mono ?_; rintro e wf ⟨fa, fc, rfl, ⟨qf1, qf2⟩, HF⟩)
                  | (go_at_call 15; refine (q_same (unhide HF) rfl (unhide hol)).mono ?_; rintro e wz ⟨rfl, ⟨qz1, qz2⟩, HZ⟩))
              all_goals
                go_wp2_with fail
                go_roundw
              all_goals first
                | exact ⟨k + 1, _, by omega, by go_num, I9, hide (by have := (unhide HZ).ls; rw [unhide Hb] at this; exact this), hide (by have := (unhide HZ).rl; rw [unhide Hb] at this; exact this), hide (by have := (unhide HZ).be; rw [unhide Hb] at this; exact this)⟩
                | (simp [intOf]; omega)
    · have q : (k : Int) < (len : Int) → ¬ (k : Int) < 150 := fun h1 h2 => hg ⟨by omega, by omega⟩
      have HX : (¬ (k : Int) < (len : Int)) ∨ ((k : Int) < (len : Int) ∧ ¬ (k : Int) < 150) := by
        by_cases h1 : (k : Int) < (len : Int)
        · exact .inr ⟨h1, q h1⟩
        · exact .inl h1
      clear q hg
      have hl9 := (unhide I).fit.len
      have hle := olds_le es 1000
      have hll := hide (show (olds es 1000).length ≤ 1000 by omega)
      have K1 := hide (oldest_any b b n 1000 es wr (unhide L) (by omega))
      clear hle
      rcases HX with q | ⟨q1, q2⟩
      · go_wp2_with fail
        refine (unhide K1).mono ?_
        rintro e w3 ⟨v3, rfl, own3, B3⟩
        obtain ⟨xa, xc, rfl⟩ := own_form own3
        have K2 := hide (roldest_any b rb n 1000 es w3 ((unhide R).below B3) (by omega))
        have B4 := hide ((unhide B).trans (B3.mono (unhide L).base_le))
        have hb3 := hide (Nat.le_trans (unhide L).base_le B3.size)
        have RO := hide (RowO.of_own own3)
        clear own3 B3 K1
        go_wp2_with fail
        refine (unhide K2).mono ?_
        rintro e w4 ⟨ra, rc, rfl, own4, B5⟩
        have KS := hide (same_yes xa ra xc rc _ (olds es 1000) rfl (by have := unhide hll; omega) w4 ((unhide RO).below B5) (RowO.of_own own4))
        have B6 := hide ((unhide B4).trans (B5.mono (unhide hb3)))
        have hb4 := hide (Nat.le_trans (unhide hb3) B5.size)
        clear own4 B5 K2 B4 RO
        generalize (olds es 1000).length = m at *
        go_wp2_with fail
        refine (unhide KS).mono ?_
        rintro e w5 ⟨rfl, B7⟩
        have B8 := hide ((unhide B6).trans (B7.mono (unhide hb4)))
        have hb5 := hide (Nat.le_trans (unhide hb4) B7.size)
        have KK := hide (known_any w5)
        clear KS B7 B6
        go_wp2_with fail
        refine (unhide KK).mono ?_
        rintro e w6 ⟨rfl, B9⟩
        replace B9 := hide B9
        go_wp2_with fail
        go_ret
        refine ⟨rfl, ?_⟩
        rw [unhide Hb]
        exact (unhide B8).trans ((unhide B9).mono (unhide hb5))
      · go_wp2_with fail
        refine (unhide K1).mono ?_
        rintro e w3 ⟨v3, rfl, own3, B3⟩
        obtain ⟨xa, xc, rfl⟩ := own_form own3
        have K2 := hide (roldest_any b rb n 1000 es w3 ((unhide R).below B3) (by omega))
        have B4 := hide ((unhide B).trans (B3.mono (unhide L).base_le))
        have hb3 := hide (Nat.le_trans (unhide L).base_le B3.size)
        have RO := hide (RowO.of_own own3)
        clear own3 B3 K1
        go_wp2_with fail
        refine (unhide K2).mono ?_
        rintro e w4 ⟨ra, rc, rfl, own4, B5⟩
        have KS := hide (same_yes xa ra xc rc _ (olds es 1000) rfl (by have := unhide hll; omega) w4 ((unhide RO).below B5) (RowO.of_own own4))
        have B6 := hide ((unhide B4).trans (B5.mono (unhide hb3)))
        have hb4 := hide (Nat.le_trans (unhide hb3) B5.size)
        clear own4 B5 K2 B4 RO
        generalize (olds es 1000).length = m at *
        go_wp2_with fail
        refine (unhide KS).mono ?_
        rintro e w5 ⟨rfl, B7⟩
        have B8 := hide ((unhide B6).trans (B7.mono (unhide hb4)))
        have hb5 := hide (Nat.le_trans (unhide hb4) B7.size)
        have KK := hide (known_any w5)
        clear KS B7 B6
        go_wp2_with fail
        refine (unhide KK).mono ?_
        rintro e w6 ⟨rfl, B9⟩
        replace B9 := hide B9
        go_wp2_with fail
        go_ret
        refine ⟨rfl, ?_⟩
        rw [unhide Hb]
        exact (unhide B8).trans ((unhide B9).mono (unhide hb5))
theorem plays_walk (n : Int) (pa : Option Addr) (len cap : Nat) (w : World) (hK : AsksAt w pa len) :
    Calls Try.prog 4 #[.int .i64 n, .slice pa len cap] w fun e w' => e = .returned (.bool true) ∧ Below w.heap.size w w' := by
  by_cases h1 : n < 1
  · exact plays_bad n pa len cap w (.inl h1)
  · by_cases h2 : 64 < n
    · exact plays_bad n pa len cap w (.inr h2)
    · exact plays_good n pa len cap w h1 h2 hK
end Go.Proofs.Ytjcjibjagjiedaa
