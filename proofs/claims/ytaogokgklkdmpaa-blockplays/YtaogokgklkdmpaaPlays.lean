/-
  BlockPlays: what the program's pool answers is what the document's pool answers.
-/
import Derived.Test.YtaogokgklkdmpaaRefI
import Derived.Deep.CutRange
import Derived.Deep.CutBlock
namespace Go.Proofs.Ytaogokgklkdmpaa
open Go.RowKit Go.Maps

theorem Sl.kept {lo : Nat} {W W' : World} {v : Value} {f : Nat → Int} {a m : Nat} (h : Sl lo W v f a m) (k : Below W.heap.size W W') : Sl 0 W' v f a m := by
  rcases h with h | ⟨g, _, h2, h3⟩
  · exact .inl h
  · exact .inr ⟨g, Nat.zero_le _, h2, (k.block g (lt_of_heap h3)).trans h3⟩
set_option maxRecDepth 100000 in
set_option maxHeartbeats 4000000 in
theorem plays_walk (a0 : Int) (a1 : Option Addr) (len1 cap1 : Nat) (w : World) (h1 : AsksAt w a1 len1) :
    Calls Try.prog 4 #[I a0, .slice a1 len1 cap1] w fun e w' => e = .returned (.bool true) ∧ Below w.heap.size w w' := by
  have hl1 := h1.1
  have H1 := hide h1
  clear h1
  by_cases hr : a0 < 0 ∨ 256 < a0
  · have hK := hide (new_bad a0 hr)
    rcases hr with hr | hr
    · go_enter Try.func4, Try.ntmps4
      go_wp2_with fail
      refine (unhide hK _).mono ?_
      rintro e w1 ⟨rfl, rfl⟩
      go_wp2_with fail
      refine (known_any _).mono ?_
      rintro e w9 ⟨rfl, K9⟩
      go_wp2_with fail
      go_ret
      exact ⟨rfl, K9⟩
    · have h0 : ¬ a0 < 0 := by omega
      go_enter Try.func4, Try.ntmps4
      go_wp2_with fail
      refine (unhide hK _).mono ?_
      rintro e w1 ⟨rfl, rfl⟩
      go_wp2_with fail
      refine (known_any _).mono ?_
      rintro e w9 ⟨rfl, K9⟩
      go_wp2_with fail
      go_ret
      exact ⟨rfl, K9⟩
  · obtain ⟨n, rfl⟩ := Int.eq_ofNat_of_zero_le (show 0 ≤ a0 by omega)
    have hn : n ≤ 256 := by omega
    have n1 : ¬ (256 : Int) < (n : Int) := by omega
    clear hr
    go_enter Try.func4, Try.ntmps4
    go_wp2_with fail
    refine (new_Z _ n rfl hn _).mono ?_
    rintro e w2 ⟨p, rfl, P2, B2⟩
    go_wp2_with fail
    refine (rnew_any n n _).mono ?_
    rintro e w3 ⟨rfl, R3, B3⟩
    have Q3 : Hid (PQ w.heap.size w3.heap.size n w w3 p w2.heap.size ⟨n, []⟩ ⟨n, []⟩) := hide ⟨(unhide P2).below B3, R3.base (unhide B2).size, (unhide B2).trans (B3.mono (unhide P2).bs), rfl, by simp [total]⟩
    obtain ⟨q, hq⟩ : ∃ q, q = w2.heap.size := ⟨_, rfl⟩
    rw [← hq] at Q3 ⊢
    clear P2 B2 R3 B3 hq
    go_wp2_with fail
    go_loopw [8] (fun i wr => ∃ (k : Nat) (s : S), k ≤ 80 ∧ i = I (k : Int) ∧ s.fs.length ≤ k ∧ Hid (PQ w.heap.size wr.heap.size n w wr p q s s)) (fun i _ => 80 - (intOf i).toNat)
    case atStart => exact ⟨0, ⟨n, []⟩, by omega, rfl, by simp, Q3⟩
    case round =>
      obtain ⟨k, s, hk, rfl, hsk, Qr⟩ := hrel
      clear Q3
      by_cases hg : k < len1 ∧ k < 80
      · obtain ⟨g1, g2⟩ := hg
        have z1 : (k : Int) < (len1 : Int) := by omega
        have z2 : (k : Int) < 80 := by omega
        have z0 : (0 : Int) ≤ (k : Int) := by omega
        obtain ⟨b, off, kd, f, a, z, ba, bn, bc, rfl, hbb, hA⟩ := (unhide H1).2 k g1
        have hA2 := hA.below (unhide Qr).B
        obtain ⟨b1, b2, b3, gg, hI⟩ := hA.hb
        have c0 := hA2.c0
        have c1 := hA2.c1
        have c2 := hA2.c2
        have c3 := hA2.c3
        have c4 := hA2.c4
        have HWf := hide hA2.wf
        have HWa := hide hA2.wa
        have HWz := hide hA2.wn
        have hX : PW w.heap.size wr.heap.size n w (wr.alloc (.cells #[I kd, I f, I a, I z, .slice ba bn bc] 39)) p q s s wr.heap.size kd f a z ba bn bc gg := by
          have hK := (Below.refl wr.heap.size wr).alloc (Nat.le_refl _) (.cells #[I kd, I f, I a, I z, .slice ba bn bc] 39)
          exact ⟨(unhide Qr).below hK, heap_alloc_new _ _, hI⟩
        have x0 := hX.c0
        obtain ⟨x1, x2, x3, x4⟩ := hX.cs
        have xf := hX.fz
        have HX := hide hX
        have hxb0 : w.heap.size ≤ wr.heap.size := (unhide Qr).P.bs
        clear hA hA2 hX hI hbb
        go_upto_if 65 with fail
        obtain ⟨w3, hw3⟩ : ∃ x, x = wr.alloc (.cells #[I kd, I f, I a, I z, .slice ba bn bc] 39) := ⟨_, rfl⟩
        obtain ⟨xb, hxb⟩ : ∃ x, x = wr.heap.size := ⟨_, rfl⟩
        rw [← hw3, ← hxb] at x0 x1 x2 x3 x4 HX
        rw [← hw3] at xf
        rw [← hxb] at xf hxb0
        rw [show wr.alloc (Obj.cells #[Value.int IntKind.i64 kd, Value.int IntKind.i64 f, Value.int IntKind.i64 a, Value.int IntKind.i64 z, Value.slice ba bn bc] 39) = w3 from hw3.symm, ← hxb]
        clear hw3 hxb c0 c1 c2 c3 c4 Qr
        go_cut [] from 48 to 195 (fun wd => ∃ m : Nat, m ≤ 1100 ∧ m ≤ bn ∧ Hid (PW w.heap.size xb n w wd p q s s xb kd f a z ba m bc gg))
        case first =>
          by_cases hl : 1100 < bn
          · have q1 : (1100 : Int) < (bn : Int) := by omega
            have q2 : (1100 : Int) ≤ (bc : Int) := by omega
            go_wp2_with fail
            go_meet
            case rel => exact ⟨1100, by omega, by omega, hide ((unhide HX).cut (by omega) hxb0)⟩
          · have q1 : ¬ (1100 : Int) < (bn : Int) := by omega
            go_wp2_with fail
            go_meet
            case rel => exact ⟨bn, by omega, by omega, HX⟩
        case rest =>
        obtain ⟨m, hm2, hmb, HX4⟩ := hcut
        clear HX x0 x1 x2 x3 x4 xf
        obtain ⟨w4, hw4⟩ : ∃ x, x = wc := ⟨_, rfl⟩
        subst hw4
        have x0 := (unhide HX4).c0
        obtain ⟨x1, x2, x3, x4⟩ := (unhide HX4).cs
        have hs0 : s.fs.length ≤ 1000 := by omega
        go_upto_block 2 with fail
        go_cut [10, 11, 12, 13, 14] from 48 to 195 (fun _ _ _ _ _ wd => ∃ s' : S, s'.fs.length ≤ k + 1 ∧ Hid (PW w.heap.size wd.heap.size n w wd p q s' s' xb kd f a z ba m bc gg))
        case first =>
          by_cases k1 : kd = 1
          · have q1 : (kd == 1) = true := by simp [k1]
            replace k1 := hide k1
            obtain ⟨X, hX⟩ : ∃ X : Int, ((s.fs.length + 1 : Nat) : Int) = X := ⟨_, rfl⟩
            replace hX := hide hX
            go_wp2_with fail
            refine (q_file (unhide HX4) hs0 X (unhide hX)).mono ?_
            rintro e w5 ⟨rfl, _, HX5⟩
            go_wp2_with fail
            refine (q_make (unhide HX5) hs0 X (unhide hX)).mono ?_
            rintro e w6 ⟨rfl, _, HX6⟩
            go_wp2_with fail
            go_meet
            case rel => exact ⟨s.add, by simp [S.add]; omega, HX6⟩
          · have q1 : (kd == 1) = false := by simp [k1]
            replace k1 := hide k1
            by_cases k2 : kd = 2
            · have q2 : (kd == 2) = true := by simp [k2]
              replace k2 := hide k2
              obtain ⟨X, hX⟩ : ∃ X : Int, dropE s f = X := ⟨_, rfl⟩
              replace hX := hide hX
              have HD := hide (unhide HX4).drew
              obtain ⟨y1, y2, y3, y4⟩ := (unhide HD).cs
              go_wp2_with fail
              go_region_held3 (fun w' => w'.cell? ⟨xb, 1, none⟩ = some (.int .i64 f)) (go_keep)
                (first
                  | (go_at_call 15; refine (q_drop (unhide HD) (unhide HWf) X (unhide hX)).mono ?_; rintro e wy ⟨rfl, ⟨qy1, qy2, qy3, qy4⟩, HY⟩)
                  | (go_at_call 20; refine (q_rdrop (unhide HY) (unhide HWf) hs0 X (unhide hX)).mono ?_; rintro e wx ⟨rfl, ⟨qx1, qx2, qx3, qx4⟩, HX6⟩))
              go_wp2_with fail
              go_meet
              case rel => exact ⟨dropS s f, by rw [dropS_len]; omega, HX6⟩
            · have q2 : (kd == 2) = false := by simp [k2]
              replace k2 := hide k2
              by_cases k3 : kd = 3
              · have q3 : (kd == 3) = true := by simp [k3]
                replace k3 := hide k3
                obtain ⟨E, hE⟩ : ∃ E, readE (s.get f) a z = E := ⟨_, rfl⟩
                obtain ⟨M, hM⟩ : ∃ M, readM (s.get f) a z = M := ⟨_, rfl⟩
                replace hE := hide hE
                replace hM := hide hM
                go_wp2_with fail
                refine (read_Z (hide (unhide HX4).Q.P) f (unhide HWf) a z (unhide HWa) E (unhide hE) M (unhide hM) (hide (unhide HX4).Q.B)).mono ?_
                rintro e w5 ⟨v, rfl, S5, K5, _, _⟩
                have HX5 := hide ((unhide HX4).below (unhide K5))
                obtain ⟨y1, y2, y3, y4⟩ := (unhide HX5).cs
                go_wp2_with fail
                refine (rread_any (unhide HX5).Q.R f a z (unhide HWf) (by omega) E (unhide hE) M (unhide hM)).mono ?_
                rintro e w6 ⟨v2, rfl, C6, K6⟩
                have S6 : Sl 0 w6 v (byteO (s.get f)) a.toNat M := (unhide S5).kept (unhide K6)
                have hc1 := conv_sl S6
                have hc2 := unhide C6
                obtain ⟨T, hT⟩ : ∃ T, T = str (byteO (s.get f)) a.toNat M := ⟨_, rfl⟩
                rw [← hT] at hc1 hc2
                have HX6 := hide ((unhide HX5).below (unhide K6)).lift
                clear hT S6 C6 S5 K5 K6 hE hM HX5 y1 y2 y3 y4
                go_wp2_with fail
                go_meet
                case rel => exact ⟨s, by omega, HX6⟩
              · have q3 : (kd == 3) = false := by simp [k3]
                replace k3 := hide k3
                by_cases k4 : kd = 4
                · have q4 : (kd == 4) = true := by simp [k4]
                  replace k4 := hide k4
                  obtain ⟨X, hX⟩ : ∃ X : Int, writeE s f a m = X := ⟨_, rfl⟩
                  replace hX := hide hX
                  obtain ⟨l, hl⟩ : ∃ l : Nat, l = m + 80 := ⟨_, rfl⟩
                  have l1 : (m : Int) ≤ (l : Int) := by omega
                  have l2 : m ≤ l := by omega
                  replace hl := hide hl
                  go_wp2_with fail
                  refine (q_roomy (unhide HX4) hm2 l (unhide hl)).mono ?_
                  rintro e w5 ⟨b5, rfl, ⟨y1, y2, y3, y4⟩, HX5, F5, hb5⟩
                  have HD := hide (unhide HX5).drew
                  have FD : Hid (Full w5.drew b5 m l gg) := hide (show Full w5.drew b5 m l gg from unhide F5)
                  obtain ⟨v1, v2, v3, v4⟩ := (unhide HD).cs
                  clear x0 x1 x2 x3 x4 HX4 HX5 F5
                  go_wp2_with fail
                  go_region_held3 (fun w' => w'.cell? ⟨xb, 1, none⟩ = some (.int .i64 f) ∧ w'.cell? ⟨xb, 2, none⟩ = some (.int .i64 a) ∧ w'.cell? ⟨xb, 4, none⟩ = some (.slice ba m bc)) (go_keep)
                    (first
                      | (go_at_call 11; refine (q_write (unhide HD) (unhide FD) l2 (unhide HWf) (unhide HWa) X (unhide hX)).mono ?_; rintro e wy ⟨rfl, ⟨qy1, qy2, qy3, qy4⟩, HY, FY⟩)
                      | (go_at_call 23; refine (q_rwrite (unhide HY) (unhide FY) hb5 hm2 (unhide HWf) hs0 X (unhide hX)).mono ?_; rintro e wx ⟨rfl, ⟨qx1, qx2, qx3, qx4⟩, HZ, FZ⟩)
                      | (go_at_call 24; refine (q_intact (unhide HZ) (unhide FZ) hm2 (unhide hl)).mono ?_; rintro e wz ⟨rfl, ⟨qz1, qz2, qz3, qz4⟩, HX6⟩))
                  go_wp2_with fail
                  go_meet
                  case rel => exact ⟨writeS s f a m gg, by rw [writeS_len]; omega, hide (unhide HX6).lift⟩
                · have q4 : (kd == 4) = false := by simp [k4]
                  replace k4 := hide k4
                  obtain ⟨X, hX⟩ : ∃ X : Int, cutE (s.get f) z = X := ⟨_, rfl⟩
                  replace hX := hide hX
                  have HD := hide (unhide HX4).drew
                  obtain ⟨y1, y2, y3, y4⟩ := (unhide HD).cs
                  go_wp2_with fail
                  go_region_held3 (fun w' => w'.cell? ⟨xb, 1, none⟩ = some (.int .i64 f) ∧ w'.cell? ⟨xb, 3, none⟩ = some (.int .i64 z)) (go_keep)
                    (first
                      | (go_at_call 12; refine (q_cut (unhide HD) (unhide HWf) X (unhide hX)).mono ?_; rintro e wy ⟨rfl, ⟨qy1, qy2, qy3, qy4⟩, HY⟩)
                      | (go_at_call 25; refine (q_rcut (unhide HY) (unhide HWf) hs0 X (unhide hX)).mono ?_; rintro e wx ⟨rfl, ⟨qx1, qx2, qx3, qx4⟩, HX6⟩))
                  go_wp2_with fail
                  go_meet
                  case rel => exact ⟨cutS s f z, by rw [cutS_len]; omega, HX6⟩
        case rest =>
        obtain ⟨s', hs', HX7⟩ := hcut
        clear HX4 x0 x1 x2 x3 x4
        obtain ⟨w7, hw7⟩ : ∃ x, x = wc := ⟨_, rfl⟩
        subst hw7
        obtain ⟨x1, x2, x3, x4⟩ := (unhide HX7).cs
        have hs1 : s'.fs.length ≤ 1000000 := by omega
        obtain ⟨zz, hzz⟩ : ∃ zz : Int, ((sizeO (s'.get f) : Nat) : Int) = zz := ⟨_, rfl⟩
        obtain ⟨uu, huu⟩ : ∃ uu : Int, ((usedO (s'.get f) : Nat) : Int) = uu := ⟨_, rfl⟩
        obtain ⟨ll, hll⟩ : ∃ ll : Int, ((s'.left : Nat) : Int) = ll := ⟨_, rfl⟩
        have H26 : Hid (∀ j, Calls Try.prog 26 #[P0 p, I f] (w7.drewN j) fun e wz => e = .returned (I zz) ∧ wz = w7.drewN j) := hide fun j => size_Z (hide ((unhide HX7).dn j).Q.P) f (unhide HWf) zz hzz
        have H27 : Hid (∀ j, Calls Try.prog 27 #[P0 q, I f] (w7.drewN j) fun e wz => e = .returned (I zz) ∧ wz = w7.drewN j) := hide fun j => by
          have := rsize_any ((unhide HX7).dn j).Q.R f (unhide HWf) hs1
          rwa [hzz] at this
        have H13 : Hid (∀ j, Calls Try.prog 13 #[P0 p, I f] (w7.drewN j) fun e wz => e = .returned (I uu) ∧ wz = w7.drewN j) := hide fun j => used_Z (hide ((unhide HX7).dn j).Q.P) f (unhide HWf) uu huu
        have H28 : Hid (∀ j, Calls Try.prog 28 #[P0 q, I f] (w7.drewN j) fun e wz => e = .returned (I uu) ∧ wz = w7.drewN j) := hide fun j => by
          have := rused_any ((unhide HX7).dn j).Q.R f (unhide HWf) hs1
          rwa [huu] at this
        have H14 : Hid (∀ j, Calls Try.prog 14 #[P0 p] (w7.drewN j) fun e wz => e = .returned (I ll) ∧ wz = w7.drewN j) := hide fun j => left_Z (hide ((unhide HX7).dn j).Q.P) ll hll
        have H29 : Hid (∀ j, Calls Try.prog 29 #[P0 q] (w7.drewN j) fun e wz => e = .returned (I ll) ∧ wz = w7.drewN j) := hide fun j => by
          have := rleft_any ((unhide HX7).dn j).Q.R (unhide HX7).Q.tt (unhide HX7).Q.P.nn hs1
          rwa [hll] at this
        clear hzz huu hll
        go_wp2_with fail
        go_quiet (first | (go_at_call 26; exact Calls.quiet_of_same (unhide H26 _)) | (go_at_call 27; exact Calls.quiet_of_same (unhide H27 _)) | (go_at_call 13; exact Calls.quiet_of_same (unhide H13 _)) | (go_at_call 28; exact Calls.quiet_of_same (unhide H28 _)) | (go_at_call 14; exact Calls.quiet_of_same (unhide H14 _)) | (go_at_call 29; exact Calls.quiet_of_same (unhide H29 _)))
        go_wp2_with fail
        exact ⟨⟨k + 1, s', by omega, rfl, by omega, hide ((unhide HX7).dn _).lift.Q⟩, by simp [intOf]; omega⟩
      · have hfin : (k < len1 ∧ ¬ k < 80) ∨ ¬ k < len1 := by omega
        rcases hfin with ⟨q1, q2⟩ | q1
        · have z1 : (k : Int) < (len1 : Int) := by omega
          have z2 : ¬ (k : Int) < 80 := by omega
          go_wp2_with fail
          go_loopw [15] (fun i wr => ∃ j : Nat, j ≤ 6 ∧ i = I (j : Int) ∧ Hid (PQ w.heap.size wr.heap.size n w wr p q s s)) (fun i _ => 6 - (intOf i).toNat)
          case atStart => exact ⟨0, by omega, rfl, Qr⟩
          case round =>
            obtain ⟨j, hj, rfl, Qj⟩ := hrel
            clear Qr
            by_cases hj6 : j < 6
            · have j1 : (j : Int) < 6 := by omega
              have wfj : Hid ((kl (j : Int)).wf = true) := hide (wf_of (by omega))
              obtain ⟨E, hE⟩ : ∃ E, readE (s.get (j : Int)) 0 2000 = E := ⟨_, rfl⟩
              obtain ⟨M, hM⟩ : ∃ M, readM (s.get (j : Int)) 0 2000 = M := ⟨_, rfl⟩
              replace hE := hide hE
              replace hM := hide hM
              go_wp2_with fail
              refine (read_Z (hide (unhide Qj).P) (j : Int) (unhide wfj) 0 2000 (by decide) E (unhide hE) M (unhide hM) (hide (unhide Qj).B)).mono ?_
              rintro e w5 ⟨v, rfl, S5, K5, _, _⟩
              have Q5 := hide ((unhide Qj).below (unhide K5))
              clear Qj
              go_wp2_with fail
              refine (rread_any (unhide Q5).R (j : Int) 0 2000 (unhide wfj) (by omega) E (unhide hE) M (unhide hM)).mono ?_
              rintro e w6 ⟨v2, rfl, C6, K6⟩
              have S6 : Sl 0 w6 v (byteO (s.get (j : Int))) (0 : Int).toNat M := (unhide S5).kept (unhide K6)
              have hc1 := conv_sl S6
              have hc2 := unhide C6
              obtain ⟨T, hT⟩ : ∃ T, T = str (byteO (s.get (j : Int))) (0 : Int).toNat M := ⟨_, rfl⟩
              rw [← hT] at hc1 hc2
              have Q6 := hide ((unhide Q5).below (unhide K6)).lift
              clear hT S6 C6 S5 Q5 K5 K6 hE hM
              go_wp2_with fail
              exact ⟨⟨j + 1, by omega, rfl, Q6⟩, by simp [intOf]; omega⟩
            · obtain rfl : j = 6 := by omega
              have j1 : ¬ ((6 : Nat) : Int) < 6 := by omega
              go_wp2_with fail
              refine (known_any _).mono ?_
              rintro e w9 ⟨rfl, K9⟩
              go_wp2_with fail
              go_ret
              exact ⟨rfl, (unhide Qj).B.trans (K9.mono (unhide Qj).P.bs)⟩
        · have z1 : ¬ (k : Int) < (len1 : Int) := by omega
          go_wp2_with fail
          go_loopw [15] (fun i wr => ∃ j : Nat, j ≤ 6 ∧ i = I (j : Int) ∧ Hid (PQ w.heap.size wr.heap.size n w wr p q s s)) (fun i _ => 6 - (intOf i).toNat)
          case atStart => exact ⟨0, by omega, rfl, Qr⟩
          case round =>
            obtain ⟨j, hj, rfl, Qj⟩ := hrel
            clear Qr
            by_cases hj6 : j < 6
            · have j1 : (j : Int) < 6 := by omega
              have wfj : Hid ((kl (j : Int)).wf = true) := hide (wf_of (by omega))
              obtain ⟨E, hE⟩ : ∃ E, readE (s.get (j : Int)) 0 2000 = E := ⟨_, rfl⟩
              obtain ⟨M, hM⟩ : ∃ M, readM (s.get (j : Int)) 0 2000 = M := ⟨_, rfl⟩
              replace hE := hide hE
              replace hM := hide hM
              go_wp2_with fail
              refine (read_Z (hide (unhide Qj).P) (j : Int) (unhide wfj) 0 2000 (by decide) E (unhide hE) M (unhide hM) (hide (unhide Qj).B)).mono ?_
              rintro e w5 ⟨v, rfl, S5, K5, _, _⟩
              have Q5 := hide ((unhide Qj).below (unhide K5))
              clear Qj
              go_wp2_with fail
              refine (rread_any (unhide Q5).R (j : Int) 0 2000 (unhide wfj) (by omega) E (unhide hE) M (unhide hM)).mono ?_
              rintro e w6 ⟨v2, rfl, C6, K6⟩
              have S6 : Sl 0 w6 v (byteO (s.get (j : Int))) (0 : Int).toNat M := (unhide S5).kept (unhide K6)
              have hc1 := conv_sl S6
              have hc2 := unhide C6
              obtain ⟨T, hT⟩ : ∃ T, T = str (byteO (s.get (j : Int))) (0 : Int).toNat M := ⟨_, rfl⟩
              rw [← hT] at hc1 hc2
              have Q6 := hide ((unhide Q5).below (unhide K6)).lift
              clear hT S6 C6 S5 Q5 K5 K6 hE hM
              go_wp2_with fail
              exact ⟨⟨j + 1, by omega, rfl, Q6⟩, by simp [intOf]; omega⟩
            · obtain rfl : j = 6 := by omega
              have j1 : ¬ ((6 : Nat) : Int) < 6 := by omega
              go_wp2_with fail
              refine (known_any _).mono ?_
              rintro e w9 ⟨rfl, K9⟩
              go_wp2_with fail
              go_ret
              exact ⟨rfl, (unhide Qj).B.trans (K9.mono (unhide Qj).P.bs)⟩
end Go.Proofs.Ytaogokgklkdmpaa
