/-
  GracePlays answers true: a Grace answers as the document's own does: what waits, for whom, and what is told. It holds for every number, every list of calls and every list of ids.
-/
import Derived.Test.YtkgcgfnleabkdaaPlaysB
import Derived.ProofKit
import Derived.OpenShut
import Derived.ShutString
import Derived.ChangeOld
import Derived.Below
namespace Go.Proofs.Ytkgcgfnleabkdaa.gracePlays
open Go.ChangeShapes Go.WideShapes Go.ChangeAt Go.RowKit
open Go.ChangeMaps (open_string shut_string)
set_option linter.unusedVariables false
attribute [local go_sem ↓] Go.wp_at_zero Go.wp_at_succ

theorem own : ownKnob Try.prog.godebug = none := by kernel_rfl
theorem laidOut : laidOutB Try.prog = true := by kernel_rfl

set_option maxRecDepth 100000 in
set_option maxHeartbeats 4000000 in
theorem walk_bad (a0 : Int) (a1 : Option Addr) (len1 cap1 : Nat) (a2 : Option Addr) (len2 cap2 : Nat) (w : World) (h0 : a0 < 1 ∨ 8 < a0) :
    Calls Try.prog 4 #[.int .i64 a0, .slice a1 len1 cap1, .slice a2 len2 cap2] w fun e w' => e = .returned (.bool true) ∧ Below w.heap.size w w' := by
  have HN := hide (new_bad a0 h0 w)
  by_cases h1 : a0 < 1
  · clear h0
    go_enter Try.func4, Try.ntmps4
    go_wp2_with fail
    refine (unhide HN).mono ?_
    rintro e w1 ⟨rfl, rfl⟩
    go_wp2_with fail
    refine (known_true w1).mono ?_
    rintro e w2 ⟨rfl, hB⟩
    go_wp2_with fail
    go_ret
    exact ⟨rfl, hB⟩
  · have h2 : 8 < a0 := by omega
    clear h0
    go_enter Try.func4, Try.ntmps4
    go_wp2_with fail
    refine (unhide HN).mono ?_
    rintro e w1 ⟨rfl, rfl⟩
    go_wp2_with fail
    refine (known_true w1).mono ?_
    rintro e w2 ⟨rfl, hB⟩
    go_wp2_with fail
    go_ret
    exact ⟨rfl, hB⟩

set_option maxRecDepth 100000 in
set_option maxHeartbeats 4000000 in
theorem walk_good (n : Nat) (a1 : Option Addr) (len1 cap1 : Nat) (a2 : Option Addr) (len2 cap2 : Nat) (w : World) (n1 : 1 ≤ n) (n2 : n ≤ 8) (hp : Asks w a1 len1) (hq : Nums w a2 len2) :
    Calls Try.prog 4 #[.int .i64 (n : Int), .slice a1 len1 cap1, .slice a2 len2 cap2] w fun e w' => e = .returned (.bool true) ∧ Below w.heap.size w w' := by
  have hml := hp.1
  have hml2 := hq.1
  unfold maxLen at hml hml2
  have HP := hide hp
  have HQ := hide hq
  clear hp hq
  have n1' : (1 : Int) ≤ (n : Int) := by omega
  have n2' : (n : Int) ≤ 8 := by omega
  have n3' : ¬ (n : Int) < 1 := by omega
  have n4' : ¬ 8 < (n : Int) := by omega
  go_enter Try.func4, Try.ntmps4
  go_wp2_with fail
  refine (new_good n n1 n2 w).mono ?_
  rintro e w1 ⟨rfl, G1, hB1⟩
  have hs1 := G1.lt
  generalize hh : w.heap.size = h at *
  have HH := hide hh
  clear hh
  go_wp2_with fail
  refine (rnew n n1 n2 w1).mono ?_
  rintro e w2 ⟨rfl, R2, hB2⟩
  have G2 := G1.below hB2
  have Bw := hB1.trans (hB2.mono (by omega))
  generalize hrc : w1.heap.size = rc at *
  have HRC := hide hrc
  clear hrc
  have R2' := R2.rebase (base := h) (by omega)
  have hsp : h + 1 < rc + 1 ∧ h + 1 < rc := by omega
  generalize rc + 1 = rb at *
  have C2 := hide (And.intro G2 (And.intro R2' Bw))
  have I0 : Iv n ((0 : Nat) : Int) (List.replicate n 0) [] := ⟨by simp, fun k s hk => by simp [List.getElem?_replicate] at hk; omega, by simp⟩
  clear G1 R2 R2' G2 Bw hB1 hB2 hs1
  go_wp2_with fail
  go_loopw [10] (fun i wr => ∃ (k : Nat) (ss : List Int) (ws : List Wt), k ≤ 150 ∧ i = .int .i64 k ∧ Iv n (k : Int) ss ws ∧ Gr h wr (h + 1) h n ss ws ∧ (∃ ps, wsOfP ps = ws ∧ Rg h wr rb rc n ss ps) ∧ Below h w wr) (fun i _ => 150 - (intOf i).toNat)
  case atStart => exact ⟨0, _, [], Nat.zero_le _, rfl, I0, (unhide C2).1, ⟨[], rfl, (unhide C2).2.1⟩, (unhide C2).2.2⟩
  case round =>
    obtain ⟨k, ss, ws, hk, rfl, I, G, R, B⟩ := hrel
    clear C2 I0
    have hwl := I.wl
    by_cases hgo : k < len1 ∧ k < 150
    · obtain ⟨hkl, hk1⟩ := hgo
      have j1 : (k : Int) < (len1 : Int) := by omega
      have j0 : (0 : Int) ≤ (k : Int) := by omega
      have j2 : (k : Int) < 150 := by omega
      obtain ⟨ob, off, kd, rr, dd, rfl, c0, c1, c2⟩ := (unhide HP).at hkl (by rw [unhide HH]; exact B)
      have hxk := putAll (w := wr) (.cells #[.int .i64 kd, .int .i64 rr, .int .i64 dd] 41) wr.heap.size rfl
      have hBx : Below wr.heap.size wr (wr.alloc (.cells #[.int .i64 kd, .int .i64 rr, .int .i64 dd] 41)) := (Below.refl _ _).alloc (Nat.le_refl _) _
      have x1 : (wr.alloc (.cells #[.int .i64 kd, .int .i64 rr, .int .i64 dd] 41)).cell? ⟨wr.heap.size, 1, none⟩ = some (.int .i64 rr) := by rw [cell_of hxk]; rfl
      have x2 : (wr.alloc (.cells #[.int .i64 kd, .int .i64 rr, .int .i64 dd] 41)).cell? ⟨wr.heap.size, 2, none⟩ = some (.int .i64 dd) := by rw [cell_of hxk]; rfl
      have P2 : PP h w n rb rc ⟨wr.heap.size, 2, none⟩ (.int .i64 dd) (.cells #[.int .i64 kd, .int .i64 rr, .int .i64 dd] 41) (wr.alloc (.cells #[.int .i64 kd, .int .i64 rr, .int .i64 dd] 41)) ss ss ws ws := by
        obtain ⟨ps, e, R⟩ := R
        exact ⟨G.below hBx, ⟨ps, e, R.below hBx⟩, x2, hxk, .inr ⟨_, rfl⟩, B.trans (hBx.mono G.base_le), hsp⟩
      have P1 : PP h w n rb rc ⟨wr.heap.size, 1, none⟩ (.int .i64 rr) (.cells #[.int .i64 kd, .int .i64 rr, .int .i64 dd] 41) (wr.alloc (.cells #[.int .i64 kd, .int .i64 rr, .int .i64 dd] 41)) ss ss ws ws := P2.re x1
      have HI := hide I
      have HP1 := hide P1
      have HP2 := hide P2
      have HXK := hide hxk
      clear I G R B hxk hBx P1 P2
      by_cases k1 : kd = 1
      · subst k1
        obtain ⟨er, ss', I', hE1, hE2⟩ := both_enter h w n rb rc ⟨wr.heap.size, 1, none⟩ (.int .i64 rr) (.cells #[.int .i64 1, .int .i64 rr, .int .i64 dd] 41) rr (k : Int) ss ws (unhide HI) (by omega)
        have HE1 := hide hE1
        have HE2 := hide hE2
        have HI9 := hide I'
        have P1d := (unhide HP1).drew
        have z1 := P1d.bx
        have HP1d := hide P1d
        clear hE1 hE2 I' HP1 P1d HP2 HXK HI
        go_wp2_with fail
        go_region_held3 (fun w' => w'.cell? ⟨wr.heap.size, 1, none⟩ = some (.int .i64 rr)) (go_keep)
          (first
            | (go_at_call 10; refine (unhide HE1 _ (unhide HP1d)).mono ?_; rintro e wy ⟨rfl, qy, HY⟩)
            | (go_at_call 20; refine (unhide HE2 _ (unhide HY)).mono ?_; rintro e wx ⟨rfl, qx, HX⟩))
        all_goals
          have HP9 := hide ((unhide HX).re (j := 2) (u' := .int .i64 dd) (by rw [cell_of (unhide HX).bo]; rfl))
          clear HX HY HP1d HE1 HE2 qx qy z1 x1 x2 c0 c1 c2
          have hwl9 := (unhide HI9).wl
          have z2 := (unhide HP9).drew.bx
          have HP9d := hide ((unhide HP9).drew)
          clear HP9
          go_wp2_with fail
          go_region_held3 (fun w' => w'.cell? ⟨wr.heap.size, 2, none⟩ = some (.int .i64 dd)) (go_keep)
            (first
              | (go_at_call 16; refine (q_wait (unhide HP9d) hwl9).mono ?_; rintro e wa ⟨va, rfl, qa, HA⟩)
              | (go_at_call 24; refine (q_rwait (unhide HA) hwl9).mono ?_; rintro e wb ⟨vb, rfl, qb, HB⟩)
              | (go_at_call 14; refine (q_same64 (unhide HB) (ids_le hwl9)).mono ?_; rintro e wc ⟨rfl, qc, HC⟩)
              | (go_at_call 17; refine (q_inside (unhide HC)).mono ?_; rintro e wd ⟨vd, rfl, qd, HD⟩)
              | (go_at_call 25; refine (q_rinside (unhide HD)).mono ?_; rintro e we ⟨ve, rfl, qe, HE⟩)
              | (go_at_call 15; refine (q_same32 (unhide HK) (blk_le _ _)).mono ?_; rintro e wz ⟨rfl, qz, HZ⟩)
              | (go_at_call 15; refine (q_same32 (unhide HE) (rises_le _)).mono ?_; rintro e wf ⟨rfl, qf, HF⟩)
              | (go_at_call 13; refine (q_blocks (unhide HF) hwl9).mono ?_; rintro e wg ⟨vg, rfl, qg, HG⟩)
              | (go_at_call 26; refine (q_rblocks (unhide HG) hwl9).mono ?_; rintro e wk ⟨vk, rfl, qk, HK⟩))
          all_goals
            go_wp2_with fail
            go_roundw
          all_goals first
            | exact ⟨k + 1, _, _, by omega, by go_num, unhide HI9, (unhide HZ).gr, (unhide HZ).rg, (unhide HZ).be⟩
            | (simp [intOf]; omega)
      · by_cases k2 : kd = 2
        · subst k2
          obtain ⟨er, ss', ws', I', hE1, hE2⟩ := both_leave h w n rb rc ⟨wr.heap.size, 1, none⟩ (.int .i64 rr) (.cells #[.int .i64 2, .int .i64 rr, .int .i64 dd] 41) rr (k : Int) ss ws (unhide HI) (by omega)
          have HE1 := hide hE1
          have HE2 := hide hE2
          have HI9 := hide I'
          have P1d := (unhide HP1).drew
          have z1 := P1d.bx
          have HP1d := hide P1d
          clear hE1 hE2 I' HP1 P1d HP2 HXK HI
          go_wp2_with fail
          go_region_held3 (fun w' => w'.cell? ⟨wr.heap.size, 1, none⟩ = some (.int .i64 rr)) (go_keep)
            (first
              | (go_at_call 12; refine (unhide HE1 _ (unhide HP1d)).mono ?_; rintro e wy ⟨rfl, qy, HY⟩)
              | (go_at_call 21; refine (unhide HE2 _ (unhide HY)).mono ?_; rintro e wx ⟨rfl, qx, HX⟩))
          all_goals
            have HP9 := hide ((unhide HX).re (j := 2) (u' := .int .i64 dd) (by rw [cell_of (unhide HX).bo]; rfl))
            clear HX HY HP1d HE1 HE2 qx qy z1 x1 x2 c0 c1 c2
            have hwl9 := (unhide HI9).wl
            have z2 := (unhide HP9).drew.bx
            have HP9d := hide ((unhide HP9).drew)
            clear HP9
            go_wp2_with fail
            go_region_held3 (fun w' => w'.cell? ⟨wr.heap.size, 2, none⟩ = some (.int .i64 dd)) (go_keep)
              (first
                | (go_at_call 16; refine (q_wait (unhide HP9d) hwl9).mono ?_; rintro e wa ⟨va, rfl, qa, HA⟩)
                | (go_at_call 24; refine (q_rwait (unhide HA) hwl9).mono ?_; rintro e wb ⟨vb, rfl, qb, HB⟩)
                | (go_at_call 14; refine (q_same64 (unhide HB) (ids_le hwl9)).mono ?_; rintro e wc ⟨rfl, qc, HC⟩)
                | (go_at_call 17; refine (q_inside (unhide HC)).mono ?_; rintro e wd ⟨vd, rfl, qd, HD⟩)
                | (go_at_call 25; refine (q_rinside (unhide HD)).mono ?_; rintro e we ⟨ve, rfl, qe, HE⟩)
                | (go_at_call 15; refine (q_same32 (unhide HK) (blk_le _ _)).mono ?_; rintro e wz ⟨rfl, qz, HZ⟩)
                | (go_at_call 15; refine (q_same32 (unhide HE) (rises_le _)).mono ?_; rintro e wf ⟨rfl, qf, HF⟩)
                | (go_at_call 13; refine (q_blocks (unhide HF) hwl9).mono ?_; rintro e wg ⟨vg, rfl, qg, HG⟩)
                | (go_at_call 26; refine (q_rblocks (unhide HG) hwl9).mono ?_; rintro e wk ⟨vk, rfl, qk, HK⟩))
            all_goals
              go_wp2_with fail
              go_roundw
            all_goals first
              | exact ⟨k + 1, _, _, by omega, by go_num, unhide HI9, (unhide HZ).gr, (unhide HZ).rg, (unhide HZ).be⟩
              | (simp [intOf]; omega)
        · by_cases k3 : kd = 3
          · subst k3
            obtain ⟨bo, er, ws', I', hE1, hE2⟩ := both_defer h w n rb rc ⟨wr.heap.size, 2, none⟩ (.int .i64 dd) (.cells #[.int .i64 3, .int .i64 rr, .int .i64 dd] 41) dd (k : Int) ss ws (unhide HI)
            have HE1 := hide hE1
            have HE2 := hide hE2
            have HI9 := hide (I'.mono (show (k : Int) ≤ (k : Int) + 1 by omega))
            clear hE1 hE2 I' HP1 HXK HI
            go_wp2_with fail
            refine (unhide HE1 _ (unhide HP2)).mono ?_
            rintro e wy ⟨rfl, qy, HY⟩
            clear x1 x2 c0 c1 c2 HP2 HE1
            go_wp2_with fail
            refine (unhide HE2 _ (unhide HY)).mono ?_
            rintro e wx ⟨rfl, qx, HX⟩
            have HP9 := HX
            clear HX HY HE2 qx qy
            have hwl9 := (unhide HI9).wl
            have z2 := (unhide HP9).drew.bx
            have HP9d := hide ((unhide HP9).drew)
            clear HP9
            go_wp2_with fail
            go_region_held3 (fun w' => w'.cell? ⟨wr.heap.size, 2, none⟩ = some (.int .i64 dd)) (go_keep)
              (first
                | (go_at_call 16; refine (q_wait (unhide HP9d) hwl9).mono ?_; rintro e wa ⟨va, rfl, qa, HA⟩)
                | (go_at_call 24; refine (q_rwait (unhide HA) hwl9).mono ?_; rintro e wb ⟨vb, rfl, qb, HB⟩)
                | (go_at_call 14; refine (q_same64 (unhide HB) (ids_le hwl9)).mono ?_; rintro e wc ⟨rfl, qc, HC⟩)
                | (go_at_call 17; refine (q_inside (unhide HC)).mono ?_; rintro e wd ⟨vd, rfl, qd, HD⟩)
                | (go_at_call 25; refine (q_rinside (unhide HD)).mono ?_; rintro e we ⟨ve, rfl, qe, HE⟩)
                | (go_at_call 15; refine (q_same32 (unhide HK) (blk_le _ _)).mono ?_; rintro e wz ⟨rfl, qz, HZ⟩)
                | (go_at_call 15; refine (q_same32 (unhide HE) (rises_le _)).mono ?_; rintro e wf ⟨rfl, qf, HF⟩)
                | (go_at_call 13; refine (q_blocks (unhide HF) hwl9).mono ?_; rintro e wg ⟨vg, rfl, qg, HG⟩)
                | (go_at_call 26; refine (q_rblocks (unhide HG) hwl9).mono ?_; rintro e wk ⟨vk, rfl, qk, HK⟩))
            all_goals
              go_wp2_with fail
              go_roundw
            all_goals first
              | exact ⟨k + 1, _, _, by omega, by go_num, unhide HI9, (unhide HZ).gr, (unhide HZ).rg, (unhide HZ).be⟩
              | (simp [intOf]; omega)
          · have HI9 := hide (Iv.mono ⟨(unhide HI).len, (unhide HI).bd, Nat.le_trans (held_len ws) (unhide HI).wl⟩ (show (k : Int) ≤ (k : Int) + 1 by omega) : Iv n ((k : Int) + 1) ss (held ws))
            clear HP1 HXK HI
            go_wp2_with fail
            refine (q_poll (unhide HP2) hwl).mono ?_
            rintro e wy ⟨vy, rfl, qy, HY⟩
            clear x1 x2 c0 c1 c2 HP2
            go_wp2_with fail
            refine (q_rpoll (unhide HY) hwl).mono ?_
            rintro e wx ⟨vx, rfl, qx, HX⟩
            go_wp2_with fail
            refine (q_same64 (unhide HX) (fids_le hwl)).mono ?_
            rintro e wv ⟨rfl, qv, HV⟩
            have HP9 := HV
            clear HX HY HV qx qy qv
            have hwl9 := (unhide HI9).wl
            have z2 := (unhide HP9).drew.bx
            have HP9d := hide ((unhide HP9).drew)
            clear HP9
            go_wp2_with fail
            go_region_held3 (fun w' => w'.cell? ⟨wr.heap.size, 2, none⟩ = some (.int .i64 dd)) (go_keep)
              (first
                | (go_at_call 16; refine (q_wait (unhide HP9d) hwl9).mono ?_; rintro e wa ⟨va, rfl, qa, HA⟩)
                | (go_at_call 24; refine (q_rwait (unhide HA) hwl9).mono ?_; rintro e wb ⟨vb, rfl, qb, HB⟩)
                | (go_at_call 14; refine (q_same64 (unhide HB) (ids_le hwl9)).mono ?_; rintro e wc ⟨rfl, qc, HC⟩)
                | (go_at_call 17; refine (q_inside (unhide HC)).mono ?_; rintro e wd ⟨vd, rfl, qd, HD⟩)
                | (go_at_call 25; refine (q_rinside (unhide HD)).mono ?_; rintro e we ⟨ve, rfl, qe, HE⟩)
                | (go_at_call 15; refine (q_same32 (unhide HK) (blk_le _ _)).mono ?_; rintro e wz ⟨rfl, qz, HZ⟩)
                | (go_at_call 15; refine (q_same32 (unhide HE) (rises_le _)).mono ?_; rintro e wf ⟨rfl, qf, HF⟩)
                | (go_at_call 13; refine (q_blocks (unhide HF) hwl9).mono ?_; rintro e wg ⟨vg, rfl, qg, HG⟩)
                | (go_at_call 26; refine (q_rblocks (unhide HG) hwl9).mono ?_; rintro e wk ⟨vk, rfl, qk, HK⟩))
            all_goals
              go_wp2_with fail
              go_roundw
            all_goals first
              | exact ⟨k + 1, _, _, by omega, by go_num, unhide HI9, (unhide HZ).gr, (unhide HZ).rg, (unhide HZ).be⟩
              | (simp [intOf]; omega)
    · have hstop : ((k : Int) < (len1 : Int)) = False ∨ ((k : Int) < (len1 : Int)) ∧ ((k : Int) < 150) = False := by
        by_cases hl : k < len1
        · right; exact ⟨by omega, by simp; omega⟩
        · left; simp; omega
      have HC := hide (And.intro G (And.intro R B))
      clear G R B I hgo
      rcases hstop with hst | ⟨hst1, hst⟩
      · go_wp2_with fail
        go_loopw [16] (fun i wx => ∃ j : Nat, j ≤ 20 ∧ i = .int .i64 j ∧ Gr h wx (h + 1) h n ss ws ∧ (∃ ps, wsOfP ps = ws ∧ Rg h wx rb rc n ss ps) ∧ Below h w wx) (fun i _ => 20 - (intOf i).toNat)
        case atStart => exact ⟨0, Nat.zero_le _, rfl, (unhide HC).1, (unhide HC).2.1, (unhide HC).2.2⟩
        case round =>
          obtain ⟨j, hj, rfl, G, R, B⟩ := hrel
          clear HC
          by_cases hgo2 : j < len2 ∧ j < 20
          · obtain ⟨hjl, hj1⟩ := hgo2
            have i1 : (j : Int) < (len2 : Int) := by omega
            have i0 : (0 : Int) ≤ (j : Int) := by omega
            have i2 : (j : Int) < 20 := by omega
            obtain ⟨ob, off, dd, e2, c0⟩ := (unhide HQ).at hjl (by rw [unhide HH]; exact B)
            obtain ⟨ob', off', dd', e2', hob, _⟩ := (unhide HQ).2 j hjl
            rw [e2] at e2'
            simp only [Option.some.injEq, Addr.mk.injEq] at e2'
            obtain ⟨rfl, rfl, -⟩ := e2'
            rw [unhide HH] at hob
            subst e2
            obtain ⟨O, hO⟩ : ∃ O, wr.heap[ob]? = some O := ⟨_, Array.getElem?_eq_getElem (cell_lt c0)⟩
            have P : PP h w n rb rc ⟨ob, off + j, none⟩ (.int .i64 dd) O wr ss ss ws ws := ⟨G, R, c0, hO, .inl hob, B, hsp⟩
            have z2 := P.drew.bx
            have HP9d := hide P.drew
            clear G R B P hO
            go_wp2_with fail
            go_region_held3 (fun w' => w'.cell? ⟨ob, off + j, none⟩ = some (.int .i64 dd)) (go_keep)
              (first
                | (go_at_call 13; refine (q_blocks (unhide HP9d) hwl).mono ?_; rintro e wg ⟨vg, rfl, qg, HG⟩)
                | (go_at_call 26; refine (q_rblocks (unhide HG) hwl).mono ?_; rintro e wk ⟨vk, rfl, qk, HK⟩)
                | (go_at_call 15; refine (q_same32 (unhide HK) (blk_le _ _)).mono ?_; rintro e wz ⟨rfl, qz, HZ⟩))
            all_goals
              go_wp2_with fail
              go_roundw
            all_goals first
              | exact ⟨j + 1, by omega, by go_num, (unhide HZ).gr, (unhide HZ).rg, (unhide HZ).be⟩
              | (simp [intOf]; omega)
          · have hstop2 : ((j : Int) < (len2 : Int)) = False ∨ ((j : Int) < (len2 : Int)) ∧ ((j : Int) < 20) = False := by
              by_cases hl : j < len2
              · right; exact ⟨by omega, by simp; omega⟩
              · left; simp; omega
            have HB := hide B
            have hgs := G.base_le
            clear G R B hgo2
            rcases hstop2 with hst2 | ⟨hst3, hst2⟩
            · go_wp2_with fail
              refine (known_true wr).mono ?_
              rintro e wz ⟨rfl, B5⟩
              have HB5 := hide ((unhide HB).trans (B5.mono hgs))
              clear B5
              go_wp2_with fail
              go_ret
              rw [unhide HH]
              exact ⟨rfl, unhide HB5⟩
            · go_wp2_with fail
              refine (known_true wr).mono ?_
              rintro e wz ⟨rfl, B5⟩
              have HB5 := hide ((unhide HB).trans (B5.mono hgs))
              clear B5
              go_wp2_with fail
              go_ret
              rw [unhide HH]
              exact ⟨rfl, unhide HB5⟩
      · go_wp2_with fail
        go_loopw [16] (fun i wx => ∃ j : Nat, j ≤ 20 ∧ i = .int .i64 j ∧ Gr h wx (h + 1) h n ss ws ∧ (∃ ps, wsOfP ps = ws ∧ Rg h wx rb rc n ss ps) ∧ Below h w wx) (fun i _ => 20 - (intOf i).toNat)
        case atStart => exact ⟨0, Nat.zero_le _, rfl, (unhide HC).1, (unhide HC).2.1, (unhide HC).2.2⟩
        case round =>
          obtain ⟨j, hj, rfl, G, R, B⟩ := hrel
          clear HC
          by_cases hgo2 : j < len2 ∧ j < 20
          · obtain ⟨hjl, hj1⟩ := hgo2
            have i1 : (j : Int) < (len2 : Int) := by omega
            have i0 : (0 : Int) ≤ (j : Int) := by omega
            have i2 : (j : Int) < 20 := by omega
            obtain ⟨ob, off, dd, e2, c0⟩ := (unhide HQ).at hjl (by rw [unhide HH]; exact B)
            obtain ⟨ob', off', dd', e2', hob, _⟩ := (unhide HQ).2 j hjl
            rw [e2] at e2'
            simp only [Option.some.injEq, Addr.mk.injEq] at e2'
            obtain ⟨rfl, rfl, -⟩ := e2'
            rw [unhide HH] at hob
            subst e2
            obtain ⟨O, hO⟩ : ∃ O, wr.heap[ob]? = some O := ⟨_, Array.getElem?_eq_getElem (cell_lt c0)⟩
            have P : PP h w n rb rc ⟨ob, off + j, none⟩ (.int .i64 dd) O wr ss ss ws ws := ⟨G, R, c0, hO, .inl hob, B, hsp⟩
            have z2 := P.drew.bx
            have HP9d := hide P.drew
            clear G R B P hO
            go_wp2_with fail
            go_region_held3 (fun w' => w'.cell? ⟨ob, off + j, none⟩ = some (.int .i64 dd)) (go_keep)
              (first
                | (go_at_call 13; refine (q_blocks (unhide HP9d) hwl).mono ?_; rintro e wg ⟨vg, rfl, qg, HG⟩)
                | (go_at_call 26; refine (q_rblocks (unhide HG) hwl).mono ?_; rintro e wk ⟨vk, rfl, qk, HK⟩)
                | (go_at_call 15; refine (q_same32 (unhide HK) (blk_le _ _)).mono ?_; rintro e wz ⟨rfl, qz, HZ⟩))
            all_goals
              go_wp2_with fail
              go_roundw
            all_goals first
              | exact ⟨j + 1, by omega, by go_num, (unhide HZ).gr, (unhide HZ).rg, (unhide HZ).be⟩
              | (simp [intOf]; omega)
          · have hstop2 : ((j : Int) < (len2 : Int)) = False ∨ ((j : Int) < (len2 : Int)) ∧ ((j : Int) < 20) = False := by
              by_cases hl : j < len2
              · right; exact ⟨by omega, by simp; omega⟩
              · left; simp; omega
            have HB := hide B
            have hgs := G.base_le
            clear G R B hgo2
            rcases hstop2 with hst2 | ⟨hst3, hst2⟩
            · go_wp2_with fail
              refine (known_true wr).mono ?_
              rintro e wz ⟨rfl, B5⟩
              have HB5 := hide ((unhide HB).trans (B5.mono hgs))
              clear B5
              go_wp2_with fail
              go_ret
              rw [unhide HH]
              exact ⟨rfl, unhide HB5⟩
            · go_wp2_with fail
              refine (known_true wr).mono ?_
              rintro e wz ⟨rfl, B5⟩
              have HB5 := hide ((unhide HB).trans (B5.mono hgs))
              clear B5
              go_wp2_with fail
              go_ret
              rw [unhide HH]
              exact ⟨rfl, unhide HB5⟩

theorem walk (a0 : Int) (a1 : Option Addr) (len1 cap1 : Nat) (a2 : Option Addr) (len2 cap2 : Nat) (w : World) (hp : Asks w a1 len1) (hq : Nums w a2 len2) :
    Calls Try.prog 4 #[.int .i64 a0, .slice a1 len1 cap1, .slice a2 len2 cap2] w fun e w' => e = .returned (.bool true) ∧ Below w.heap.size w w' := by
  by_cases h0 : a0 < 1 ∨ 8 < a0
  · exact walk_bad a0 a1 len1 cap1 a2 len2 cap2 w h0
  · obtain ⟨n, rfl⟩ := Int.eq_ofNat_of_zero_le (show 0 ≤ a0 by omega)
    exact walk_good n a1 len1 cap1 a2 len2 cap2 w (by omega) (by omega) hp hq

end Go.Proofs.Ytkgcgfnleabkdaa.gracePlays
