/-
  ArenaPlays answers true: an arena answers as the document's own does, for any calls and handles, elder ones and others'. It holds for every number and every list of calls.
-/
import Derived.Test.YtfhphamjalpjpaaPlaysB
import Derived.Deep.CutRange
import Derived.ProofKit
import Derived.OpenShut
import Derived.ShutString
import Derived.ChangeOld
import Derived.Below
namespace Go.Proofs.Ytfhphamjalpjpaa.arenaPlays
open Go.ChangeShapes Go.WideShapes Go.ChangeAt Go.RowKit
open Go.ChangeMaps (open_string shut_string)
set_option linter.unusedVariables false
attribute [local go_sem ↓] Go.wp_at_zero Go.wp_at_succ

theorem own : ownKnob Try.prog.godebug = none := by kernel_rfl
theorem laidOut : laidOutB Try.prog = true := by kernel_rfl

theorem take_yesL (b c d n k : Nat) (gs : List Slot) (q q' : List Nat) (st v g u g1 : Int) (w : World) (hq : q = k :: q') (h : Ar w b c d n gs q st) (hk : gs[k]? = some (g, u)) (g0 : 0 ≤ g) (gm : g ≤ 1000000) (hg : g + 1 = g1) :
    Calls Try.prog 10 #[.pointer (some ⟨b, 0, none⟩), .int .i64 v] w fun e w' => e = .returned (.tuple #[.agg #[.int .i64 (k : Int), .int .i64 g1], .int .i64 0]) ∧ Ar w' b c d n (gs.set k (g + 1, v)) q' st ∧ Fr b c d w w' := by
  subst hg hq
  exact take_yes b c d n k gs q' st v g u w h hk g0 gm
theorem rtake_yesL (B rb gb vb n k : Nat) (gs : List Slot) (q q' : List Nat) (tv : Value) (st v g u g1 : Int) (w : World) (hq : q = k :: q') (h : RA B w rb gb vb n gs q tv st) (hk : gs[k]? = some (g, u)) (g0 : 0 ≤ g) (gm : g ≤ 1000000) (hB : B ≤ w.heap.size) (hg : g + 1 = g1) :
    Calls Try.prog 19 #[.pointer (some ⟨rb, 0, none⟩), .int .i64 v] w fun e w' => e = .returned (.tuple #[.agg #[.int .i64 (k : Int), .int .i64 g1], .int .i64 0]) ∧ (∃ tv', RA B w' rb gb vb n (gs.set k (g + 1, v)) q' tv' st) ∧ FrS B w w' := by
  subst hg hq
  exact rtake_yes B rb gb vb n k gs q' tv st v g u w h hk g0 gm hB

set_option maxRecDepth 100000 in
set_option maxHeartbeats 4000000 in
theorem walk_bad (a0 : Int) (a1 : Option Addr) (len1 cap1 : Nat) (w : World) (h0 : a0 < 1 ∨ 64 < a0) :
    Calls Try.prog 4 #[.int .i64 a0, .slice a1 len1 cap1] w fun e w' => e = .returned (.bool true) ∧ Below w.heap.size w w' := by
  have HN := hide (new_bad a0 h0 w)
  by_cases h1 : a0 < 1
  · clear h0
    go_enter Try.func4, Try.ntmps4
    go_wp2_with fail
    refine (unhide HN).mono ?_
    rintro e w1 ⟨rfl, rfl⟩
    go_wp2_with fail
    refine (known_true w1).mono ?_
    rintro e w2 ⟨rfl, hB⟩
    go_wp2_with fail
    go_ret
    exact ⟨rfl, hB⟩
  · have h2 : 64 < a0 := by omega
    clear h0
    go_enter Try.func4, Try.ntmps4
    go_wp2_with fail
    refine (unhide HN).mono ?_
    rintro e w1 ⟨rfl, rfl⟩
    go_wp2_with fail
    refine (known_true w1).mono ?_
    rintro e w2 ⟨rfl, hB⟩
    go_wp2_with fail
    go_ret
    exact ⟨rfl, hB⟩

set_option maxRecDepth 100000 in
set_option maxHeartbeats 4000000 in
theorem walk_good (n : Nat) (a1 : Option Addr) (len1 cap1 : Nat) (w : World) (n1 : 1 ≤ n) (n2 : n ≤ 64) (hp : Asks w a1 len1) :
    Calls Try.prog 4 #[.int .i64 (n : Int), .slice a1 len1 cap1] w fun e w' => e = .returned (.bool true) ∧ Below w.heap.size w w' := by
  obtain ⟨hml, hrow⟩ := hp
  unfold maxLen at hml
  have HR := hide hrow
  clear hrow
  have n1' : (1 : Int) ≤ (n : Int) := by omega
  have n2' : (n : Int) ≤ 64 := by omega
  have n3' : ¬ (n : Int) < 1 := by omega
  have n4' : ¬ 64 < (n : Int) := by omega
  go_enter Try.func4, Try.ntmps4
  go_wp2_with fail
  refine (new_good n n1 n2 w).mono ?_
  rintro e w0 ⟨c, d, rfl, hc, hd, hA0, hB⟩
  generalize hw : w.heap.size = h at *
  have HW := hide hw
  clear hw
  have hb : h ≤ h + 2 := by omega
  generalize h + 2 = b at *
  have hs0 : h ≤ w0.heap.size := by have := hB.size; rw [unhide HW] at this; exact this
  have hl0 := hA0.lt
  have HA0 := hide hA0
  clear hA0
  go_wp2_with fail
  refine (rnew n n1 n2 w0).mono ?_
  rintro e w1 ⟨rb, gb, vb, tv, rfl, hR, hB1⟩
  have P0 : PL h w b c d n w0.heap.size rb gb vb (.slice none 0 0) [] w1 (List.replicate n (0, 0), List.range n, 0) :=
    ⟨(unhide HA0).below hB1, ⟨tv, hR⟩, World.ownsRow_nil _ _ _ _, hB.trans (hB1.mono hs0), hB1.size, ⟨hb, hc, hd, hl0.1, hl0.2.1, hl0.2.2, hs0⟩⟩
  generalize w0.heap.size = B at *
  clear HA0 hB hR hB1 hs0
  go_wp2_with fail
  go_loopw [8, 9] (fun v8 i wr => ∃ (t : Nat) (gs : List Slot) (q : List Nat) (st : Int) (xs : List Slot), t ≤ len1 ∧ t ≤ 200 ∧ i = .int .i64 t ∧ Fit n t gs q ∧ 0 ≤ st ∧ st ≤ t ∧ xs.length ≤ t ∧ PL h w b c d n B rb gb vb v8 xs wr (gs, q, st)) (fun _ i _ => 200 - (intOf i).toNat)
  case atStart => exact ⟨0, _, _, 0, [], Nat.zero_le _, Nat.zero_le _, rfl, Fit.start n, Int.le_refl _, by omega, Nat.le_refl _, P0⟩
  case round =>
    obtain ⟨t, gs, q, st, xs, ht1, ht2, rfl, hFt, s0, s1, hxl, P⟩ := hrel
    clear P0
    have HF := hide hFt
    clear hFt
    by_cases htl : t < len1
    · have j1 : (t : Int) < (len1 : Int) := by omega
      have j0 : (0 : Int) ≤ (t : Int) := by omega
      by_cases ht : t < 200
      · have j2 : (t : Int) < 200 := by omega
        obtain ⟨ob, off, kk, ko, kv, ks, kx, rfl, hob, d0, d1, d2, d3, d4⟩ := unhide HR t htl
        have hob' : ob < h := hob
        have y0 := (P.be.cell (p := ⟨ob, off + t * 5, none⟩) hob').trans d0
        have y1 := (P.be.cell (p := ⟨ob, off + t * 5 + 1, none⟩) hob').trans d1
        have y2 := (P.be.cell (p := ⟨ob, off + t * 5 + 2, none⟩) hob').trans d2
        have y3 := (P.be.cell (p := ⟨ob, off + t * 5 + 3, none⟩) hob').trans d3
        have y4 := (P.be.cell (p := ⟨ob, off + t * 5 + 4, none⟩) hob').trans d4
        have PB := P.boxes kk ko kv ks kx
        obtain ⟨p8, c8, rfl⟩ := P.hs.form
        have hz := P.sz
        have h8 : (Value.slice p8 xs.length c8).ownBlock ≠ some (wr.heap.size + 1) := by
          intro e
          have := (P.hs.lt e).1
          omega
        clear d0 d1 d2 d3 d4 P
        obtain ⟨pp, hpp⟩ : ∃ pp : Bool, pp = (decide (0 ≤ ko) && decide (0 < xs.length)) := ⟨_, rfl⟩
        go_upto_region 13 with fail
        go_cut [74] from 51 to 177 (fun v74 wc => v74 = .bool pp ∧ wc = ((wr.alloc (kObj kk ko kv ks kx)).alloc (hObj ks kx)))
        case first =>
          have HPP := hide hpp
          clear hpp PB
          by_cases h1 : 0 ≤ ko
          · go_wp2_with fail
            go_meet
            case rel => exact ⟨by rw [unhide HPP]; simp [h1], rfl⟩
          · have HE1 := hide (decide_eq_false h1)
            go_wp2_with fail
            go_meet
            case rel => exact ⟨by rw [unhide HPP, unhide HE1]; rfl, rfl⟩
        case rest =>
          obtain ⟨rfl, rfl⟩ := hcut
          go_upto_if 74 with fail
          go_cut [8] from 51 to 177 (fun v8 wc => v8 = .slice p8 xs.length c8 ∧ ∃ s x : Int, PS h w b c d n B rb gb vb (.slice p8 xs.length c8) xs wr.heap.size (wr.heap.size + 1) kk ko kv ks kx s x wc (gs, q, st) (gs, q, st))
          case first =>
            cases pp with
            | false =>
              have HPB := hide PB
              clear PB hpp
              go_wp2_with fail
              go_meet
              case rel => exact ⟨rfl, ks, kx, unhide HPB⟩
            | true =>
              have hk0 : 0 ≤ ko ∧ 0 < xs.length := by simpa using hpp.symm
              obtain ⟨hk1, hl1⟩ := hk0
              obtain ⟨g8, cp8, cur8, e8, hgb8, hgg8, hcap8, hcm8, -⟩ := PB.hs.open_ (List.length_pos_iff.1 hl1)
              simp only [Value.slice.injEq] at e8
              obtain ⟨rfl, -, rfl⟩ := e8
              obtain ⟨jj, hjj⟩ : ∃ jj : Nat, ko.tmod (xs.length : Int) = (jj : Int) := ⟨(ko.tmod (xs.length : Int)).toNat, by have := Int.tmod_nonneg (xs.length : Int) hk1; omega⟩
              have hjl : jj < xs.length := by have := Int.tmod_lt_of_pos ko (show (0 : Int) < (xs.length : Int) by omega); omega
              obtain ⟨⟨s', x'⟩, hxj⟩ : ∃ y, xs[jj]? = some y := ⟨_, List.getElem?_eq_getElem hjl⟩
              obtain ⟨z0, z1⟩ := Hs.at PB.hs.cells_ hxj
              have PB2 := PB.reset (by omega) h8 s' x'
              obtain ⟨u0, u1, uf⟩ := hcells PB.k11
              have u4 : ((wr.alloc (kObj kk ko kv ks kx)).alloc (hObj ks kx)).cell? ⟨wr.heap.size, 1, none⟩ = some (.int .i64 ko) := by rw [cell_of PB.k10]; rfl
              have HPB := hide PB2
              generalize ((wr.alloc (kObj kk ko kv ks kx)).alloc (hObj ks kx)) = W2 at *
              generalize hll : xs.length = l at *
              have m1 : (0 : Int) ≤ (jj : Int) := by omega
              have m2 : (jj : Int) < (l : Int) := by omega
              have m3 : ¬ (l : Int) = 0 := by omega
              have m4 : ¬ l = 0 := by omega
              clear PB PB2 hpp hxj hll
              go_wp2_with fail
              go_meet
              case rel => exact ⟨rfl, s', x', unhide HPB⟩
          case rest =>
            obtain ⟨rfl, s, x, P⟩ := hcut
            clear PB hpp
            obtain ⟨er, m, hFd, hm0, hm1⟩ := found (unhide HF) s x
            have hx : er = 0 → x ≤ 1000000 := fun e => by have := hFd.small (unhide HF) e; omega
            have s9 : st ≤ 1000000 := by omega
            by_cases k1 : kk = 1
            · subst k1
              obtain ⟨c0, c2, c3, c4⟩ := P.cells
              have hxl2 : xs.length ≤ 200 := by omega
              clear hFd hx hm0 hm1
              cases q with
              | nil =>
                have HT := hide (take_no b c d n gs st kv wc P.ar)
                have HP := hide P
                clear P
                go_wp2_with fail
                refine (unhide HT).mono ?_
                rintro e w2 ⟨rfl, -, hB2⟩
                have P2 := ((unhide HP).below hB2).below ((Below.refl _ w2).alloc (Nat.le_refl _) (hObj 0 0))
                have k12 := putAll (w := w2) (hObj 0 0) w2.heap.size rfl
                obtain ⟨tv, R2⟩ := P2.ra
                have HT2 := hide (rtake_no B rb gb vb n gs tv st kv (w2.alloc (hObj 0 0)) R2)
                obtain ⟨-, e2, -, -⟩ := P2.cells
                have HP2 := hide P2
                have HK12 := hide k12
                clear P2 R2 hB2 HT HP c0 c2 c3 c4 k12
                go_wp2_with fail
                refine (unhide HT2).mono ?_
                rintro e w3 ⟨rfl, hB3⟩
                have hBa := (Below.refl _ w3).alloc (Nat.le_refl _) (.cells #[.int .i64 0, .int .i64 0] 44)
                have P3 := ((unhide HP2).below hB3).below hBa
                have k12 := (hBa.block _ (lt_of_heap ((hB3.block _ (lt_of_heap (unhide HK12))).trans (unhide HK12)))).trans ((hB3.block _ (lt_of_heap (unhide HK12))).trans (unhide HK12))
                have k14 := putAll (w := w3) (.cells #[.int .i64 0, .int .i64 0] 44) w3.heap.size rfl
                obtain ⟨z0, z1, -⟩ := hcells k12
                have z2 : (w3.alloc (.cells #[.int .i64 0, .int .i64 0] 44)).cell? ⟨w3.heap.size, 0, none⟩ = some (.int .i64 0) := by rw [cell_of k14]; rfl
                have z3 : (w3.alloc (.cells #[.int .i64 0, .int .i64 0] 44)).cell? ⟨w3.heap.size, 1, none⟩ = some (.int .i64 0) := by rw [cell_of k14]; rfl
                have HP3 := hide P3.drew
                have l12 := lt_of_heap k12
                have l14 := lt_of_heap k14
                clear P3 hBa HT2 HP2 HK12 e2 k12 k14 hB3
                go_wp2_with fail
                go_region_held3 (fun w' => w'.cell? ⟨w2.heap.size, 0, none⟩ = some (.int .i64 0) ∧ w'.cell? ⟨w2.heap.size, 1, none⟩ = some (.int .i64 0) ∧ w'.cell? ⟨w3.heap.size, 0, none⟩ = some (.int .i64 0) ∧ w'.cell? ⟨w3.heap.size, 1, none⟩ = some (.int .i64 0)) (go_keep)
                  (first
                    | (go_at_call 20; refine (in_any 0 0 _).mono ?_; rintro e w5 ⟨rfl, hB5⟩; have q0 := (hB5.cell (p := ⟨w2.heap.size, 0, none⟩) l12).trans z0; have q1 := (hB5.cell (p := ⟨w2.heap.size, 1, none⟩) l12).trans z1; have q2 := (hB5.cell (p := ⟨w3.heap.size, 0, none⟩) l14).trans z2; have q3 := (hB5.cell (p := ⟨w3.heap.size, 1, none⟩) l14).trans z3))
                have P5 := (unhide HP3).below hB5
                have HF2 := hide ((unhide HF).mono (show (t : Int) ≤ (t : Int) + 1 by omega))
                clear q0 q1 q2 q3 z0 z1 z2 z3 l12 l14 hB5 HP3
                have PLf := P5.pl
                obtain ⟨tv, Rf⟩ := PLf.ra
                obtain ⟨ta, tc, rfl, -⟩ := Rf.ht.form
                obtain ⟨-, -, e2, e3, -⟩ := Rf.cells
                simp only at e2 e3
                have HST : Hid (∀ m, Calls Try.prog 13 #[.pointer (some ⟨b, 0, none⟩)] (w5.drewN m) fun e wz => e = .returned (.int .i64 st) ∧ wz = w5.drewN m) := fun m => stale_any _ _ _ _ _ _ _ _ (PLf.ar.dn m)
                have HLF : Hid (∀ m, Calls Try.prog 14 #[.pointer (some ⟨b, 0, none⟩)] (w5.drewN m) fun e wz => e = .returned (.int .i64 (([] : List Nat).length : Int)) ∧ wz = w5.drewN m) := fun m => left_any _ _ _ _ _ _ _ _ (PLf.ar.dn m) _ rfl
                have HPL := hide PLf
                clear PLf Rf P5
                go_wp2_with fail
                go_quiet ((first | (go_at_call 13; exact Calls.quiet_of_same (unhide HST _)) | (go_at_call 14; exact Calls.quiet_of_same (unhide HLF _))))
                go_wp2_with fail
                go_roundw
                case rel => exact ⟨t + 1, gs, [], st, xs, by omega, by omega, by go_num, unhide HF2, by omega, by omega, by first | omega | (simp; omega), (unhide HPL).dn _⟩
                case measure => simp [intOf]; omega
              | cons k q =>
                obtain ⟨g, u, hk, ho⟩ := (unhide HF).ev k (by simp)
                have hbd := (unhide HF).bd k g u hk
                obtain ⟨g1, hg1⟩ : ∃ g1, g + 1 = g1 := ⟨_, rfl⟩
                have gm : g ≤ 1000000 := by omega
                have HT := hide (take_yesL b c d n k gs _ q st kv g u g1 wc rfl P.ar hk hbd.1 gm hg1)
                have HF2 := hide ((unhide HF).take (v := kv) hk).1
                have HP := hide P
                clear P
                go_wp2_with fail
                refine (unhide HT).mono ?_
                rintro e w2 ⟨rfl, hA2, hF2⟩
                have P2 := ((unhide HP).fr (a' := (gs.set k (g + 1, kv), q, st)) hA2 hF2).below ((Below.refl _ w2).alloc (Nat.le_refl _) (hObj (k : Int) g1))
                have k12 := putAll (w := w2) (hObj (k : Int) g1) w2.heap.size rfl
                obtain ⟨tv, R2⟩ := P2.ra
                have HT2 := hide (rtake_yesL B rb gb vb n k gs _ q tv st kv g u g1 (w2.alloc (hObj (k : Int) g1)) rfl R2 hk hbd.1 gm P2.sz hg1)
                obtain ⟨-, e2, -, -⟩ := P2.cells
                have HP2 := hide P2
                have HK12 := hide k12
                clear P2 R2 hA2 hF2 HT HP c0 c2 c3 c4 k12 hk ho hbd
                go_wp2_with fail
                refine (unhide HT2).mono ?_
                rintro e w3 ⟨rfl, hR3, hF3⟩
                have hBa := (Below.refl _ w3).alloc (Nat.le_refl _) (.cells #[.int .i64 (k : Int), .int .i64 g1] 44)
                have P3 := ((unhide HP2).frs (r' := (gs.set k (g + 1, kv), q, st)) hR3 hF3).below hBa
                have k12a := (hF3.hk _ _ 29 (.inl rfl) (unhide HK12)).trans (unhide HK12)
                have k12 := (hBa.block _ (lt_of_heap k12a)).trans k12a
                have k14 := putAll (w := w3) (.cells #[.int .i64 (k : Int), .int .i64 g1] 44) w3.heap.size rfl
                obtain ⟨z0, z1, -⟩ := hcells k12
                have z2 : (w3.alloc (.cells #[.int .i64 (k : Int), .int .i64 g1] 44)).cell? ⟨w3.heap.size, 0, none⟩ = some (.int .i64 (k : Int)) := by rw [cell_of k14]; rfl
                have z3 : (w3.alloc (.cells #[.int .i64 (k : Int), .int .i64 g1] 44)).cell? ⟨w3.heap.size, 1, none⟩ = some (.int .i64 g1) := by rw [cell_of k14]; rfl
                have HP3 := hide P3.drew
                have l12 := lt_of_heap k12
                have l14 := lt_of_heap k14
                clear P3 hBa HT2 HP2 HK12 e2 k12 k12a k14 hF3 hR3
                go_wp2_with fail
                go_region_held3 (fun w' => w'.cell? ⟨w2.heap.size, 0, none⟩ = some (.int .i64 (k : Int)) ∧ w'.cell? ⟨w2.heap.size, 1, none⟩ = some (.int .i64 g1) ∧ w'.cell? ⟨w3.heap.size, 0, none⟩ = some (.int .i64 (k : Int)) ∧ w'.cell? ⟨w3.heap.size, 1, none⟩ = some (.int .i64 g1)) (go_keep)
                  (first
                    | (go_at_call 20; refine (in_any (k : Int) g1 _).mono ?_; rintro e w5 ⟨rfl, hB5⟩; have q0 := (hB5.cell (p := ⟨w2.heap.size, 0, none⟩) l12).trans z0; have q1 := (hB5.cell (p := ⟨w2.heap.size, 1, none⟩) l12).trans z1; have q2 := (hB5.cell (p := ⟨w3.heap.size, 0, none⟩) l14).trans z2; have q3 := (hB5.cell (p := ⟨w3.heap.size, 1, none⟩) l14).trans z3))
                have P5 := (((unhide HP3).below hB5).below ((Below.refl _ w5).alloc (Nat.le_refl _) (hObj (k : Int) g1))).pl
                obtain ⟨i0, hi, hz0, hz1, hz2⟩ := info_parts infoH
                have own5 : (w5.alloc (hObj (k : Int) g1)).ownsRow h 29 2 (.slice p8 xs.length c8) xs.length (rowsOf Slot.row xs) := P5.hs
                have hs5 : h ≤ (w5.alloc (hObj (k : Int) g1)).heap.size := by have := P5.sz; have := P5.lo; omega
                have HP5 := hide P5
                clear q2 q3 z0 z1 z2 z3 l12 l14 hB5 HP3 P5
                generalize hrw : rowsOf Slot.row xs = RW at own5
                have HRW := hide hrw
                clear hrw
                go_wp2_with (first
                  | (at_builtin; refine wpList_append_own_at _ rfl _ _ 36 rfl h 29 i0 (.agg #[.int .i64 0, .int .i64 0]) 2 16 Try.underlying36 hi hz0 hz1 hz2 rfl (by decide) _ _ _ rfl own5 ⟨w5.heap.size, 0, none⟩ 1 1 [.int .i64 (k : Int), .int .i64 g1] rfl rfl ?c1 ?c2 ?c3 ?c4 ?c5 ?_))
                case c1 =>
                  intro j u hj
                  match j, hj with
                  | 0, hj => simp at hj; subst hj; simp [Addr.add]
                  | 1, hj => simp at hj; subst hj; simp [Addr.add]
                case c2 => intro u hu; simp at hu; rcases hu with rfl | rfl <;> rfl
                case c3 => unfold maxLen; omega
                case c4 => omega
                case c5 => exact hs5
                intro v6 w6 own6 hgr _ _
                have P5 := unhide HP5
                obtain ⟨tv5, R5⟩ := P5.ra
                have P6 : PL h w b c d n B rb gb vb v6 (xs ++ [((k : Int), g1)]) w6 (gs.set k (g + 1, kv), q, st) :=
                  ⟨P5.ar.grown P5.hs hgr, ⟨tv5, R5.grown P5.hs hgr⟩, by unfold Hs; rw [List.length_append, rows_app, rows_one, unhide HRW]; exact own6, below_grown P5.be P5.hs hgr hs5, Nat.le_trans P5.sz hgr.size, P5.lo⟩
                clear own6 hgr P5 R5 own5 q0 q1 HP5
                obtain ⟨gs2, hgs2⟩ : ∃ gs2, gs.set k (g + 1, kv) = gs2 := ⟨_, rfl⟩
                rw [hgs2] at P6 HF2
                clear hgs2 hg1
                have PLf := P6
                obtain ⟨tv, Rf⟩ := PLf.ra
                obtain ⟨ta, tc, rfl, -⟩ := Rf.ht.form
                obtain ⟨-, -, e2, e3, -⟩ := Rf.cells
                simp only at e2 e3
                have HST : Hid (∀ m, Calls Try.prog 13 #[.pointer (some ⟨b, 0, none⟩)] (w6.drewN m) fun e wz => e = .returned (.int .i64 st) ∧ wz = w6.drewN m) := fun m => stale_any _ _ _ _ _ _ _ _ (PLf.ar.dn m)
                have HLF : Hid (∀ m, Calls Try.prog 14 #[.pointer (some ⟨b, 0, none⟩)] (w6.drewN m) fun e wz => e = .returned (.int .i64 (q.length : Int)) ∧ wz = w6.drewN m) := fun m => left_any _ _ _ _ _ _ _ _ (PLf.ar.dn m) _ rfl
                have HPL := hide PLf
                clear PLf Rf P6
                go_wp2_with fail
                go_quiet ((first | (go_at_call 13; exact Calls.quiet_of_same (unhide HST _)) | (go_at_call 14; exact Calls.quiet_of_same (unhide HLF _))))
                go_wp2_with fail
                go_roundw
                case rel => exact ⟨t + 1, gs2, q, st, xs ++ [((k : Int), g1)], by omega, by omega, by go_num, unhide HF2, by omega, by omega, by first | omega | (simp; omega), (unhide HPL).dn _⟩
                case measure => simp [intOf]; omega
            · by_cases k2 : kk = 2
              · subst k2
                obtain ⟨f1, f2, f3⟩ := hFd.free (a := (gs, q, st)) (unhide HF)
                obtain ⟨A2, hA2⟩ : ∃ A2, freed (gs, q, st) s x er m = A2 := ⟨_, rfl⟩
                rw [hA2] at f1 f3
                obtain ⟨gs2, q2, st2⟩ := A2
                simp only at f1 f3
                have HF2 := hide f1
                have hst2 : 0 ≤ st2 ∧ st2 ≤ (t : Int) + 1 := by omega
                clear f1 f3
                have P0 := P.drew
                obtain ⟨c0, c2, c3, c4⟩ := P.cells
                clear P
                go_wp2_with fail
                go_region_held3 (fun w' => w'.cell? ⟨wr.heap.size, 2, none⟩ = some (.int .i64 kv) ∧ w'.cell? ⟨wr.heap.size + 1, 0, none⟩ = some (.int .i64 s) ∧ w'.cell? ⟨wr.heap.size + 1, 1, none⟩ = some (.int .i64 x)) (go_keep)
                  (first
                    | (go_at_call 20; refine (p_in (by assumption)).mono ?_; rintro e w' ⟨rfl, ⟨q0, q1, q2'⟩, P'⟩)
                    | (go_at_call 12; refine (p_free (a := (gs, q, st)) (by assumption) hFd f2 s0 s9 hx).mono ?_; rintro e w' ⟨rfl, ⟨q0, q1, q2'⟩, P'⟩)
                    | (go_at_call 21; refine (p_rfree (r := (gs, q, st)) (by assumption) hFd f2 s0 s9 hx).mono ?_; rintro e w' ⟨rfl, ⟨q0, q1, q2'⟩, P'⟩))
                all_goals rw [hA2] at P'
                all_goals clear hA2
                trace_state
                all_goals (
                  have PLf := P'.pl
                  obtain ⟨tv, Rf⟩ := PLf.ra
                  obtain ⟨ta, tc, rfl, -⟩ := Rf.ht.form
                  obtain ⟨-, -, e2, e3, -⟩ := Rf.cells
                  simp only at e2 e3
                  have HST : Hid (∀ m, Calls Try.prog 13 #[.pointer (some ⟨b, 0, none⟩)] (w'.drewN m) fun e wz => e = .returned (.int .i64 st2) ∧ wz = w'.drewN m) := fun m => stale_any _ _ _ _ _ _ _ _ (PLf.ar.dn m)
                  have HLF : Hid (∀ m, Calls Try.prog 14 #[.pointer (some ⟨b, 0, none⟩)] (w'.drewN m) fun e wz => e = .returned (.int .i64 (q2.length : Int)) ∧ wz = w'.drewN m) := fun m => left_any _ _ _ _ _ _ _ _ (PLf.ar.dn m) _ rfl
                  have HPL := hide PLf
                  clear PLf Rf
                  go_wp2_with fail
                  go_quiet ((first | (go_at_call 13; exact Calls.quiet_of_same (unhide HST _)) | (go_at_call 14; exact Calls.quiet_of_same (unhide HLF _))))
                  go_wp2_with fail
                  go_roundw
                  case rel => exact ⟨t + 1, gs2, q2, st2, xs, by omega, by omega, by go_num, unhide HF2, by omega, by omega, by first | omega | (simp; omega), (unhide HPL).dn _⟩
                  case measure => simp [intOf]; omega)
              · by_cases k3 : kk = 3
                · subst k3
                  have HT := hide (p_get (a := (gs, q, st)) P hFd s0 s9)
                  obtain ⟨c0, c2, c3, c4⟩ := P.cells
                  have hst2 : 0 ≤ st + m ∧ st + m ≤ (t : Int) + 1 := by omega
                  obtain ⟨st2, hst2e⟩ : ∃ st2, st + m = st2 := ⟨_, rfl⟩
                  rw [hst2e] at hst2
                  obtain ⟨gt, hgt⟩ : ∃ gt, gotten (gs, q, st) s er = gt := ⟨_, rfl⟩
                  rw [hgt] at HT
                  clear P
                  go_wp2_with fail
                  refine (unhide HT).mono ?_
                  rintro e w2 ⟨rfl, P2⟩
                  obtain ⟨e0, e2, e3, e4⟩ := P2.cells
                  have HI := hide (p_in P2)
                  clear P2 c0 c2 c3 c4 HT
                  go_wp2_with fail
                  refine (unhide HI).mono ?_
                  rintro e w3 ⟨rfl, -, P3⟩
                  have HT := hide (p_rget (r := (gs, q, st)) P3 hFd s0 s9)
                  rw [hgt] at HT
                  clear P3 HI e0 e2 e3 e4
                  go_wp2_with fail
                  refine (unhide HT).mono ?_
                  rintro e w4 ⟨rfl, P4⟩
                  clear HT
                  have P5 : PS h w b c d n B rb gb vb (.slice p8 xs.length c8) xs wr.heap.size (wr.heap.size + 1) 3 ko kv ks kx s x w4 (gs, q, st2) (gs, q, st2) := by rw [← hst2e]; exact P4
                  have HF2 := hide ((unhide HF).mono (show (t : Int) ≤ (t : Int) + 1 by omega))
                  clear hst2e hgt P4
                  have PLf := P5.pl
                  obtain ⟨tv, Rf⟩ := PLf.ra
                  obtain ⟨ta, tc, rfl, -⟩ := Rf.ht.form
                  obtain ⟨-, -, e2, e3, -⟩ := Rf.cells
                  simp only at e2 e3
                  have HST : Hid (∀ m, Calls Try.prog 13 #[.pointer (some ⟨b, 0, none⟩)] (w4.drewN m) fun e wz => e = .returned (.int .i64 st2) ∧ wz = w4.drewN m) := fun m => stale_any _ _ _ _ _ _ _ _ (PLf.ar.dn m)
                  have HLF : Hid (∀ m, Calls Try.prog 14 #[.pointer (some ⟨b, 0, none⟩)] (w4.drewN m) fun e wz => e = .returned (.int .i64 (q.length : Int)) ∧ wz = w4.drewN m) := fun m => left_any _ _ _ _ _ _ _ _ (PLf.ar.dn m) _ rfl
                  have HPL := hide PLf
                  clear PLf Rf P5
                  go_wp2_with fail
                  go_quiet ((first | (go_at_call 13; exact Calls.quiet_of_same (unhide HST _)) | (go_at_call 14; exact Calls.quiet_of_same (unhide HLF _))))
                  go_wp2_with fail
                  go_roundw
                  case rel => exact ⟨t + 1, gs, q, st2, xs, by omega, by omega, by go_num, unhide HF2, by omega, by omega, by first | omega | (simp; omega), (unhide HPL).dn _⟩
                  case measure => simp [intOf]; omega
                · obtain ⟨f1, f3⟩ := hFd.put (v := kv) (a := (gs, q, st)) (unhide HF)
                  replace f1 := f1.mono (show (t : Int) ≤ (t : Int) + 1 by omega)
                  obtain ⟨A2, hA2⟩ : ∃ A2, seten (gs, q, st) s x er m kv = A2 := ⟨_, rfl⟩
                  rw [hA2] at f1 f3
                  obtain ⟨gs2, q2, st2⟩ := A2
                  simp only at f1 f3
                  have HF2 := hide f1
                  have hst2 : 0 ≤ st2 ∧ st2 ≤ (t : Int) + 1 := by omega
                  clear f1 f3
                  have P0 := P.drew
                  obtain ⟨c0, c2, c3, c4⟩ := P.cells
                  clear P
                  go_wp2_with fail
                  go_region_held3 (fun w' => w'.cell? ⟨wr.heap.size, 2, none⟩ = some (.int .i64 kv) ∧ w'.cell? ⟨wr.heap.size + 1, 0, none⟩ = some (.int .i64 s) ∧ w'.cell? ⟨wr.heap.size + 1, 1, none⟩ = some (.int .i64 x)) (go_keep)
                    (first
                      | (go_at_call 20; refine (p_in (by assumption)).mono ?_; rintro e w' ⟨rfl, ⟨q0, q1, q2'⟩, P'⟩)
                      | (go_at_call 11; refine (p_set (a := (gs, q, st)) (by assumption) hFd s0 s9).mono ?_; rintro e w' ⟨rfl, ⟨q0, q1, q2'⟩, P'⟩)
                      | (go_at_call 23; refine (p_rset (r := (gs, q, st)) (by assumption) hFd s0 s9).mono ?_; rintro e w' ⟨rfl, ⟨q0, q1, q2'⟩, P'⟩))
                  all_goals rw [hA2] at P'
                  all_goals clear hA2
                  trace_state
                  all_goals (
                    have PLf := P'.pl
                    obtain ⟨tv, Rf⟩ := PLf.ra
                    obtain ⟨ta, tc, rfl, -⟩ := Rf.ht.form
                    obtain ⟨-, -, e2, e3, -⟩ := Rf.cells
                    simp only at e2 e3
                    have HST : Hid (∀ m, Calls Try.prog 13 #[.pointer (some ⟨b, 0, none⟩)] (w'.drewN m) fun e wz => e = .returned (.int .i64 st2) ∧ wz = w'.drewN m) := fun m => stale_any _ _ _ _ _ _ _ _ (PLf.ar.dn m)
                    have HLF : Hid (∀ m, Calls Try.prog 14 #[.pointer (some ⟨b, 0, none⟩)] (w'.drewN m) fun e wz => e = .returned (.int .i64 (q2.length : Int)) ∧ wz = w'.drewN m) := fun m => left_any _ _ _ _ _ _ _ _ (PLf.ar.dn m) _ rfl
                    have HPL := hide PLf
                    clear PLf Rf
                    go_wp2_with fail
                    go_quiet ((first | (go_at_call 13; exact Calls.quiet_of_same (unhide HST _)) | (go_at_call 14; exact Calls.quiet_of_same (unhide HLF _))))
                    go_wp2_with fail
                    go_roundw
                    case rel => exact ⟨t + 1, gs2, q2, st2, xs, by omega, by omega, by go_num, unhide HF2, by omega, by omega, by first | omega | (simp; omega), (unhide HPL).dn _⟩
                    case measure => simp [intOf]; omega)
      · obtain rfl : t = 200 := by omega
        have HLV := hide (live_all b c d n gs q st wr P.ar (unhide HF).nn)
        have HP := hide P
        clear P
        go_wp2_with fail
        refine (unhide HLV).mono ?_
        rintro e w2 ⟨v, rfl, own, hB2⟩
        obtain ⟨tv, R⟩ := (unhide HP).ra
        have HRL := hide (rlive B rb gb vb n gs q tv st w2 (R.below hB2) (unhide HF).nn)
        have HO := hide own
        have hBB := (unhide HP).be.trans (hB2.mono (by have := (unhide HP).sz; have := (unhide HP).lo; omega))
        have hs2 : h ≤ w2.heap.size := by have := (unhide HP).sz; have := (unhide HP).lo; have := hB2.size; omega
        have hll := lives_len gs n
        clear own hB2 R HLV HP
        go_wp2_with fail
        refine (unhide HRL).mono ?_
        rintro e w3 ⟨v', rfl, own', hB3⟩
        have ow := Rw.of_own (own_keep (W' := w3) (unhide HO) (fun k cur hc => hB3.block k (lt_of_heap hc)))
        have ow' := Rw.of_own own'
        have hB4 := hBB.trans (hB3.mono hs2)
        have hs3 : h ≤ w3.heap.size := Nat.le_trans hs2 hB3.size
        generalize lives gs n = L at *
        obtain ⟨pa, pc, rfl, -⟩ := ow.form
        obtain ⟨pa', pc', rfl, -⟩ := ow'.form
        have HOW := hide ow
        have HOW' := hide ow'
        clear ow ow' own' HO hB3 hBB HRL hs2
        generalize hL : L.length = l at *
        have HL := hide hL
        clear hL
        go_wp2_with fail
        go_loopw [22] (fun i wz => ∃ k : Nat, k ≤ l ∧ i = .int .i64 k ∧ Below w3.heap.size w3 wz) (fun i _ => l - (intOf i).toNat)
        case atStart => exact ⟨0, Nat.zero_le _, rfl, Below.refl _ _⟩
        case round =>
          obtain ⟨k, hk, rfl, hBk⟩ := hrel
          by_cases hkl : k < l
          · have m1 : (k : Int) < (l : Int) := by omega
            have m0 : (0 : Int) ≤ (k : Int) := by omega
            obtain ⟨⟨s, x⟩, hy⟩ : ∃ y, L[k]? = some y := ⟨_, List.getElem?_eq_getElem (by rw [unhide HL]; exact hkl)⟩
            obtain ⟨g1, o1, c1, e1, -, -⟩ := (unhide HOW).open_ (by omega)
            obtain ⟨g2, o2, c2, e2, -, -⟩ := (unhide HOW').open_ (by omega)
            simp only [Value.slice.injEq] at e1 e2
            obtain ⟨rfl, -, rfl⟩ := e1
            obtain ⟨rfl, -, rfl⟩ := e2
            have q0 := rowsOf_get Slot.row 2 Slot.row_length L k 0 (s, x) hy (by omega)
            have q1 := rowsOf_get Slot.row 2 Slot.row_length L k 1 (s, x) hy (by omega)
            rw [Nat.mul_comm] at q0 q1
            have lg1 := ((unhide HOW).lt (k := g1) rfl).1
            have lg2 := ((unhide HOW').lt (k := g2) rfl).1
            have z0 : wr.cell? ⟨g1, o1 + k * 2, none⟩ = some (.int .i64 s) := (hBk.cell (p := ⟨g1, o1 + k * 2, none⟩) lg1).trans ((unhide HOW).cell q0)
            have z1 : wr.cell? ⟨g1, o1 + k * 2 + 1, none⟩ = some (.int .i64 x) := (hBk.cell (p := ⟨g1, o1 + k * 2 + 1, none⟩) lg1).trans ((unhide HOW).cell q1)
            have z2 : wr.cell? ⟨g2, o2 + k * 2, none⟩ = some (.int .i64 s) := (hBk.cell (p := ⟨g2, o2 + k * 2, none⟩) lg2).trans ((unhide HOW').cell q0)
            have z3 : wr.cell? ⟨g2, o2 + k * 2 + 1, none⟩ = some (.int .i64 x) := (hBk.cell (p := ⟨g2, o2 + k * 2 + 1, none⟩) lg2).trans ((unhide HOW').cell q1)
            have hsz := hBk.size
            clear q0 q1 hy
            go_wp2_with fail
            go_region_held3 (fun w' => w'.cell? ⟨g1, o1 + k * 2, none⟩ = some (.int .i64 s) ∧ w'.cell? ⟨g1, o1 + k * 2 + 1, none⟩ = some (.int .i64 x) ∧ w'.cell? ⟨g2, o2 + k * 2, none⟩ = some (.int .i64 s) ∧ w'.cell? ⟨g2, o2 + k * 2 + 1, none⟩ = some (.int .i64 x)) (go_keep)
              (first
                | (go_at_call 20; refine (in_any s x _).mono ?_; rintro e w5 ⟨rfl, hB5⟩; have y0 := (hB5.cell (p := ⟨g1, o1 + k * 2, none⟩) (Nat.lt_of_lt_of_le lg1 hsz)).trans z0; have y1 := (hB5.cell (p := ⟨g1, o1 + k * 2 + 1, none⟩) (Nat.lt_of_lt_of_le lg1 hsz)).trans z1; have y2 := (hB5.cell (p := ⟨g2, o2 + k * 2, none⟩) (Nat.lt_of_lt_of_le lg2 hsz)).trans z2; have y3 := (hB5.cell (p := ⟨g2, o2 + k * 2 + 1, none⟩) (Nat.lt_of_lt_of_le lg2 hsz)).trans z3))
            have hB6 := hBk.drew.trans (hB5.mono hsz)
            clear y0 y1 y2 y3 z0 z1 z2 z3 hB5
            go_wp2_with fail
            go_roundw
            case rel => exact ⟨k + 1, by omega, by go_num, hB6⟩
            case measure => simp [intOf]; omega
          · obtain rfl : k = l := by omega
            go_wp2_with fail
            refine (known_true _).mono ?_
            rintro e w6 ⟨rfl, hB6⟩
            go_wp2_with fail
            go_ret
            rw [unhide HW]
            have hB7 := hB4.trans (hBk.mono hs3)
            exact ⟨rfl, hB7.trans (hB6.mono (Nat.le_trans hs3 hBk.size))⟩
    · obtain rfl : t = len1 := by omega
      have HLV := hide (live_all b c d n gs q st wr P.ar (unhide HF).nn)
      have HP := hide P
      clear P
      go_wp2_with fail
      refine (unhide HLV).mono ?_
      rintro e w2 ⟨v, rfl, own, hB2⟩
      obtain ⟨tv, R⟩ := (unhide HP).ra
      have HRL := hide (rlive B rb gb vb n gs q tv st w2 (R.below hB2) (unhide HF).nn)
      have HO := hide own
      have hBB := (unhide HP).be.trans (hB2.mono (by have := (unhide HP).sz; have := (unhide HP).lo; omega))
      have hs2 : h ≤ w2.heap.size := by have := (unhide HP).sz; have := (unhide HP).lo; have := hB2.size; omega
      have hll := lives_len gs n
      clear own hB2 R HLV HP
      go_wp2_with fail
      refine (unhide HRL).mono ?_
      rintro e w3 ⟨v', rfl, own', hB3⟩
      have ow := Rw.of_own (own_keep (W' := w3) (unhide HO) (fun k cur hc => hB3.block k (lt_of_heap hc)))
      have ow' := Rw.of_own own'
      have hB4 := hBB.trans (hB3.mono hs2)
      have hs3 : h ≤ w3.heap.size := Nat.le_trans hs2 hB3.size
      generalize lives gs n = L at *
      obtain ⟨pa, pc, rfl, -⟩ := ow.form
      obtain ⟨pa', pc', rfl, -⟩ := ow'.form
      have HOW := hide ow
      have HOW' := hide ow'
      clear ow ow' own' HO hB3 hBB HRL hs2
      generalize hL : L.length = l at *
      have HL := hide hL
      clear hL
      go_wp2_with fail
      go_loopw [22] (fun i wz => ∃ k : Nat, k ≤ l ∧ i = .int .i64 k ∧ Below w3.heap.size w3 wz) (fun i _ => l - (intOf i).toNat)
      case atStart => exact ⟨0, Nat.zero_le _, rfl, Below.refl _ _⟩
      case round =>
        obtain ⟨k, hk, rfl, hBk⟩ := hrel
        by_cases hkl : k < l
        · have m1 : (k : Int) < (l : Int) := by omega
          have m0 : (0 : Int) ≤ (k : Int) := by omega
          obtain ⟨⟨s, x⟩, hy⟩ : ∃ y, L[k]? = some y := ⟨_, List.getElem?_eq_getElem (by rw [unhide HL]; exact hkl)⟩
          obtain ⟨g1, o1, c1, e1, -, -⟩ := (unhide HOW).open_ (by omega)
          obtain ⟨g2, o2, c2, e2, -, -⟩ := (unhide HOW').open_ (by omega)
          simp only [Value.slice.injEq] at e1 e2
          obtain ⟨rfl, -, rfl⟩ := e1
          obtain ⟨rfl, -, rfl⟩ := e2
          have q0 := rowsOf_get Slot.row 2 Slot.row_length L k 0 (s, x) hy (by omega)
          have q1 := rowsOf_get Slot.row 2 Slot.row_length L k 1 (s, x) hy (by omega)
          rw [Nat.mul_comm] at q0 q1
          have lg1 := ((unhide HOW).lt (k := g1) rfl).1
          have lg2 := ((unhide HOW').lt (k := g2) rfl).1
          have z0 : wr.cell? ⟨g1, o1 + k * 2, none⟩ = some (.int .i64 s) := (hBk.cell (p := ⟨g1, o1 + k * 2, none⟩) lg1).trans ((unhide HOW).cell q0)
          have z1 : wr.cell? ⟨g1, o1 + k * 2 + 1, none⟩ = some (.int .i64 x) := (hBk.cell (p := ⟨g1, o1 + k * 2 + 1, none⟩) lg1).trans ((unhide HOW).cell q1)
          have z2 : wr.cell? ⟨g2, o2 + k * 2, none⟩ = some (.int .i64 s) := (hBk.cell (p := ⟨g2, o2 + k * 2, none⟩) lg2).trans ((unhide HOW').cell q0)
          have z3 : wr.cell? ⟨g2, o2 + k * 2 + 1, none⟩ = some (.int .i64 x) := (hBk.cell (p := ⟨g2, o2 + k * 2 + 1, none⟩) lg2).trans ((unhide HOW').cell q1)
          have hsz := hBk.size
          clear q0 q1 hy
          go_wp2_with fail
          go_region_held3 (fun w' => w'.cell? ⟨g1, o1 + k * 2, none⟩ = some (.int .i64 s) ∧ w'.cell? ⟨g1, o1 + k * 2 + 1, none⟩ = some (.int .i64 x) ∧ w'.cell? ⟨g2, o2 + k * 2, none⟩ = some (.int .i64 s) ∧ w'.cell? ⟨g2, o2 + k * 2 + 1, none⟩ = some (.int .i64 x)) (go_keep)
            (first
              | (go_at_call 20; refine (in_any s x _).mono ?_; rintro e w5 ⟨rfl, hB5⟩; have y0 := (hB5.cell (p := ⟨g1, o1 + k * 2, none⟩) (Nat.lt_of_lt_of_le lg1 hsz)).trans z0; have y1 := (hB5.cell (p := ⟨g1, o1 + k * 2 + 1, none⟩) (Nat.lt_of_lt_of_le lg1 hsz)).trans z1; have y2 := (hB5.cell (p := ⟨g2, o2 + k * 2, none⟩) (Nat.lt_of_lt_of_le lg2 hsz)).trans z2; have y3 := (hB5.cell (p := ⟨g2, o2 + k * 2 + 1, none⟩) (Nat.lt_of_lt_of_le lg2 hsz)).trans z3))
          have hB6 := hBk.drew.trans (hB5.mono hsz)
          clear y0 y1 y2 y3 z0 z1 z2 z3 hB5
          go_wp2_with fail
          go_roundw
          case rel => exact ⟨k + 1, by omega, by go_num, hB6⟩
          case measure => simp [intOf]; omega
        · obtain rfl : k = l := by omega
          go_wp2_with fail
          refine (known_true _).mono ?_
          rintro e w6 ⟨rfl, hB6⟩
          go_wp2_with fail
          go_ret
          rw [unhide HW]
          have hB7 := hB4.trans (hBk.mono hs3)
          exact ⟨rfl, hB7.trans (hB6.mono (Nat.le_trans hs3 hBk.size))⟩

end Go.Proofs.Ytfhphamjalpjpaa.arenaPlays
