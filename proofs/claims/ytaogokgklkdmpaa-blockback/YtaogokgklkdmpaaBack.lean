/-
  BlockBack: what was written is read where it was written.
-/
import Derived.Test.YtaogokgklkdmpaaWithin
import Derived.Deep.Cut
namespace Go.Proofs.Ytaogokgklkdmpaa
open Go.RowKit Go.Maps

set_option maxRecDepth 100000 in
set_option maxHeartbeats 2000000 in
theorem back_walk (a0 : Option Addr) (len0 cap0 : Nat) (a1 : Option Addr) (len1 cap1 : Nat) (a2 a3 : Int) (w : World) (h0 : BytesAt w a0 len0 cap0) (h1 : BytesAt w a1 len1 cap1) :
    Calls Try.prog 5 #[.slice a0 len0 cap0, .slice a1 len1 cap1, I a2, I a3] w fun e w' => e = .returned (.bool true) ∧ Below w.heap.size w w' := by
  obtain ⟨l0, lc0, lm0, g0, H0⟩ := h0
  obtain ⟨l1, lc1, lm1, g1, H1⟩ := h1
  replace H0 := hide H0
  replace H1 := hide H1
  go_enter Try.func5, Try.ntmps5
  go_wp2_with fail
  refine (new_Z _ 256 rfl (by omega) _).mono ?_
  rintro e w1 ⟨p, rfl, P, B⟩
  go_upto_if 28 with fail
  go_cut [0] from 16 (fun v wc => ∃ (n : Nat), n ≤ 300 ∧ n ≤ len0 ∧ v = .slice a0 n cap0 ∧ wc = w1)
  case first =>
    by_cases hl : 300 < len0
    · have q1 : (300 : Int) < (len0 : Int) := by omega
      have q2 : (300 : Int) ≤ (cap0 : Int) := by omega
      go_wp2_with fail
      go_meet
      case rel => exact ⟨300, by omega, by omega, rfl, rfl⟩
    · have q1 : ¬ (300 : Int) < (len0 : Int) := by omega
      go_wp2_with fail
      go_meet
      case rel => exact ⟨len0, by omega, by omega, rfl, rfl⟩
  case rest =>
  obtain ⟨n0, hn0, hm0, rfl, rfl⟩ := hcut
  go_upto_if 33 with fail
  go_cut [1] from 16 (fun v wd => ∃ (n : Nat), n ≤ 300 ∧ n ≤ len1 ∧ v = .slice a1 n cap1 ∧ wd = wc)
  case first =>
    by_cases hl : 300 < len1
    · have q1 : (300 : Int) < (len1 : Int) := by omega
      have q2 : (300 : Int) ≤ (cap1 : Int) := by omega
      go_wp2_with fail
      go_meet
      case rel => exact ⟨300, by omega, by omega, rfl, rfl⟩
    · have q1 : ¬ (300 : Int) < (len1 : Int) := by omega
      go_wp2_with fail
      go_meet
      case rel => exact ⟨len1, by omega, by omega, rfl, rfl⟩
  case rest =>
  obtain ⟨n1, hn1, hm1, rfl, rfl⟩ := hcut
  have I0 := hide ((unhide H0).take hm0)
  have I1 := hide ((unhide H1).take hm1)
  clear H0 H1 hm0 hm1
  go_wp2_with fail
  refine (within_any _ _ _ (by omega) (by omega)).mono ?_
  rintro e w2 ⟨⟨r, hr, rfl⟩, rfl⟩
  go_wp2_with fail
  refine (within_any _ _ _ (by omega) (by omega)).mono ?_
  rintro e w3 ⟨⟨t, ht, rfl⟩, rfl⟩
  go_wp2_with fail
  refine (file_Z (s := ⟨256, []⟩) P 1 rfl (by decide) B).mono ?_
  clear P B
  rintro e w4 ⟨rfl, P, _, B⟩
  go_wp2_with fail
  obtain ⟨e1, y1, hy1, hb1, hs1, hh1, hl1⟩ := write_good (add_get 256) r n0 g0 (by omega) (by decide)
  refine (write_Z (s := (⟨256, []⟩ : S).add) P 1 (by decide) (r : Int) (wf_of (by omega)) a0 n0 cap0 g0 ((unhide I0).base rfl (unhide B)) 0 e1 B).mono ?_
  clear P B
  rintro e w5 ⟨rfl, P, _, B⟩
  have hl2 : 64 ≤ (writeS (⟨256, []⟩ : S).add 1 (r : Int) n0 g0).left := by simp only [S.add] at hl1; simp only [S.add]; omega
  obtain ⟨s5, hs5⟩ : ∃ s5, s5 = writeS (⟨256, []⟩ : S).add 1 (r : Int) n0 g0 := ⟨_, rfl⟩
  rw [← hs5] at hy1 hl2 P
  obtain ⟨e2, y2, hy2, hb2, hs2, hh2, hl3⟩ := write_good hy1 t n1 g1 (by omega) hl2
  clear hl1 hl2 hl3 hh1 hh2 hs5 e1
  have E2 := hide e2
  have Y1 := hide hy1
  have Y2 := hide hy2
  have B1 := hide hb1
  have B2 := hide hb2
  have S1 := hide hs1
  have S2 := hide hs2
  clear e2 hy1 hy2 hb1 hb2 hs1 hs2
  go_wp2_with fail
  refine (write_Z (s := s5) P 1 (by decide) (t : Int) (wf_of (by omega)) a1 n1 cap1 g1 ((unhide I1).base rfl (unhide B)) 0 (unhide E2) B).mono ?_
  clear P B
  rintro e w6 ⟨rfl, P, _, B⟩
  obtain ⟨s6, hs6⟩ : ∃ s6, s6 = writeS s5 1 (t : Int) n1 g1 := ⟨_, rfl⟩
  rw [← hs6] at Y2 P
  clear hs6 E2
  obtain ⟨z1, hz1⟩ : ∃ z1 : Nat, z1 = if n0 = 0 then 0 else r + n0 := ⟨_, rfl⟩
  have hz1' : y1.size = z1 := by
    rw [unhide S1, hz1]
    split
    · rfl
    · simp [F.empty]
  have hz1b : z1 ≤ 600 := by rw [hz1]; split <;> omega
  obtain ⟨z, hz⟩ : ∃ z : Nat, z = y2.size := ⟨_, rfl⟩
  have hz' : z = if n1 = 0 then z1 else max z1 (t + n1) := by rw [hz, unhide S2, hz1']
  have hzb : z ≤ 600 := by rw [hz']; split <;> omega
  have HZ := hide hz
  have HZ1 := hide hz1
  have HZ' := hide hz'
  clear hz1 hz1' hz hz' S1 S2
  go_upto_if 58 with fail
  go_cut [12] from 16 (fun v wd => v = I (z1 : Int) ∧ wd = w6)
  case first =>
    by_cases hl : n0 = 0
    · have q1 : ¬ (0 : Int) < (n0 : Int) := by omega
      replace hl := hide hl
      go_wp2_with fail
      go_meet
      case rel =>
        rw [unhide HZ1, if_pos (unhide hl)]
        exact ⟨rfl, rfl⟩
    · have q1 : (0 : Int) < (n0 : Int) := by omega
      replace hl := hide hl
      go_wp2_with fail
      go_meet
      case rel =>
        rw [unhide HZ1, if_neg (unhide hl)]
        exact ⟨rfl, rfl⟩
  case rest =>
  obtain ⟨rfl, rfl⟩ := hcut
  go_upto_region 16 with fail
  go_cut [73] from 16 (fun v wd => v = .bool (decide (n1 ≠ 0 ∧ z1 < t + n1)) ∧ wd = wc)
  case first =>
    by_cases hl : n1 = 0
    · have q1 : ¬ (0 : Int) < (n1 : Int) := by omega
      replace hl := hide hl
      go_wp2_with fail
      go_meet
      case rel =>
        rw [decide_eq_false (fun h => h.1 (unhide hl))]
        exact ⟨rfl, rfl⟩
    · have q1 : (0 : Int) < (n1 : Int) := by omega
      replace hl := hide hl
      by_cases hm : z1 < t + n1
      · have q2 : (z1 : Int) < (t : Int) + (n1 : Int) := by omega
        go_wp2_with fail
        go_meet
        case rel =>
          rw [decide_eq_true ⟨unhide hl, hm⟩]
          exact ⟨rfl, rfl⟩
      · have q2 : ¬ (z1 : Int) < (t : Int) + (n1 : Int) := by omega
        go_wp2_with fail
        go_meet
        case rel =>
          rw [decide_eq_false (fun h => hm h.2)]
          exact ⟨rfl, rfl⟩
  case rest =>
  obtain ⟨rfl, rfl⟩ := hcut
  go_upto_if 73 with fail
  go_cut [12] from 16 (fun v wd => v = I (z : Int) ∧ wd = wc)
  case first =>
    by_cases hm : n1 ≠ 0 ∧ z1 < t + n1
    · rw [decide_eq_true hm]
      replace hm := hide hm
      go_wp2_with fail
      go_meet
      case rel =>
        rw [unhide HZ', if_neg (unhide hm).1, Nat.max_eq_right (by have := (unhide hm).2; omega)]
        exact ⟨rfl, rfl⟩
    · rw [decide_eq_false hm]
      replace hm := hide hm
      go_wp2_with fail
      go_meet
      case rel =>
        have e : z = z1 := by
          rw [unhide HZ']
          split
          · rfl
          · rename_i h
            by_cases h2 : z1 < t + n1
            · exact absurd ⟨h, h2⟩ (unhide hm)
            · omega
        rw [e]
        exact ⟨rfl, rfl⟩
  case rest =>
  obtain ⟨rfl, rfl⟩ := hcut
  obtain ⟨w6, hw6⟩ : ∃ x, x = wc := ⟨_, rfl⟩
  subst hw6
  have hmk := make_run z (by omega)
  go_upto_if 82 with fail
  obtain ⟨w7, hw7⟩ : ∃ w7, w7 = w6.alloc (.cells (lst (fun _ => 0) 0 z).toArray 5) := ⟨_, rfl⟩
  rw [← hw7]
  have G7 : w7.heap[w6.heap.size]? = some (.cells (lst (fun _ => 0) 0 z).toArray 5) := by rw [hw7]; exact heap_alloc_new _ _
  have K7 : Below w6.heap.size w6 w7 := by rw [hw7]; exact (Below.refl _ w6).alloc (Nat.le_refl _) _
  replace G7 := hide G7
  replace K7 := hide K7
  clear hmk hw7
  have zb0 : n0 ≠ 0 → r + n0 ≤ z := by
    intro h
    have e1 := unhide HZ1
    have e2 := unhide HZ'
    rw [if_neg h] at e1
    rw [e2]
    split <;> omega
  have zb1 : n1 ≠ 0 → t + n1 ≤ z := by
    intro h
    have e2 := unhide HZ'
    rw [if_neg h] at e2
    omega
  go_cut [] from 16 (fun wd => Hid (wd.heap[w6.heap.size]? = some (.cells (lst (lay (fun _ => 0) r n0 g0) 0 z).toArray 5)) ∧ Hid (Below w6.heap.size w6 wd))
  case first =>
    by_cases hl : n0 = 0
    · have q1 : ¬ (0 : Int) < (n0 : Int) := by omega
      replace hl := hide hl
      go_wp2_with fail
      go_meet
      case rel =>
        rw [unhide hl, lay_zero]
        exact ⟨G7, K7⟩
    · have q1 : (0 : Int) < (n0 : Int) := by omega
      have q2 := zb0 hl
      have q3 : (r : Int) ≤ (z : Int) := by omega
      have q4 : ¬ z = r := by omega
      obtain ⟨w8, hcp, hg8, F8, _⟩ := copy_in (m := z - r) (c := z - r) (unhide G7) (((unhide I0).base rfl (unhide B)).below (unhide K7)) (by omega) q2 (by omega)
      have HG8 := hide hg8
      have HF8 := hide (F8.base (B := w6.heap.size) (unhide K7).size (by simp))
      clear hg8 F8
      replace hl := hide hl
      go_wp2_with fail
      go_meet
      case rel => exact ⟨HG8, hide ((unhide K7).trans (unhide HF8))⟩
  case rest =>
  obtain ⟨G8, K8⟩ := hcut
  clear G7 K7 zb0
  obtain ⟨w8, hw8⟩ : ∃ x, x = wc := ⟨_, rfl⟩
  subst hw8
  go_upto_if 90 with fail
  go_cut [] from 16 (fun wd => Hid (wd.heap[w6.heap.size]? = some (.cells (lst (lay (lay (fun _ => 0) r n0 g0) t n1 g1) 0 z).toArray 5)) ∧ Hid (Below w6.heap.size w6 wd))
  case first =>
    by_cases hl : n1 = 0
    · have q1 : ¬ (0 : Int) < (n1 : Int) := by omega
      replace hl := hide hl
      go_wp2_with fail
      go_meet
      case rel =>
        rw [unhide hl, lay_zero]
        exact ⟨G8, K8⟩
    · have q1 : (0 : Int) < (n1 : Int) := by omega
      have q2 := zb1 hl
      have q3 : (t : Int) ≤ (z : Int) := by omega
      have q4 : ¬ z = t := by omega
      obtain ⟨w9, hcp, hg9, F9, _⟩ := copy_in (m := z - t) (c := z - t) (unhide G8) (((unhide I1).base rfl (unhide B)).below (unhide K8)) (by omega) q2 (by omega)
      have HG9 := hide hg9
      have HF9 := hide (F9.base (B := w6.heap.size) (unhide K8).size (by simp))
      clear hg9 F9
      replace hl := hide hl
      go_wp2_with fail
      go_meet
      case rel => exact ⟨HG9, hide ((unhide K8).trans (unhide HF9))⟩
  case rest =>
  obtain ⟨G9, K9⟩ := hcut
  clear G8 K8 zb1
  obtain ⟨w9, hw9⟩ : ∃ x, x = wc := ⟨_, rfl⟩
  subst hw9
  have P9 := hide ((unhide P).below (unhide K9))
  have B9 := hide ((unhide B).trans ((unhide K9).mono (unhide P).bs))
  clear P B
  have hrm : readM (s6.get 1) 0 5000 = z := by
    rw [unhide Y2]
    simp only [readM]
    rw [← unhide HZ]
    simp
    omega
  have hre : readE (s6.get 1) 0 5000 = 0 := by rw [unhide Y2]; rfl
  replace hrm := hide hrm
  replace hre := hide hre
  go_wp2_with fail
  refine (read_Z P9 1 (by decide) 0 5000 (by decide) 0 (unhide hre) z (unhide hrm) B9).mono ?_
  rintro e w10 ⟨v, rfl, S10, K10, P10, B10⟩
  have hc1 := conv_sl (unhide S10)
  have hG10 : w10.heap[w6.heap.size]? = some (.cells (lst (lay (lay (fun _ => 0) r n0 g0) t n1 g1) 0 z).toArray 5) := ((unhide K10).block _ (lt_of_heap (unhide G9))).trans (unhide G9)
  have hc2 := conv_bs (Bs.of_row hG10) z
  have eT : str (byteO (s6.get 1)) (0 : Int).toNat z = str (fun j => lay (lay (fun _ => 0) r n0 g0) t n1 g1 (0 + j)) 0 z := by
    refine str_congr fun j _ => ?_
    rw [unhide Y2]
    simp only [byteO]
    rw [unhide B2, unhide B1]
    simp [F.empty]
  rw [eT] at hc1
  obtain ⟨T, hT⟩ : ∃ T, T = str (fun j => lay (lay (fun _ => 0) r n0 g0) t n1 g1 (0 + j)) 0 z := ⟨_, rfl⟩
  rw [← hT] at hc1 hc2
  clear eT hT hG10 G9 K9 P9 B9 S10 hrm hre
  have hsz : ((sizeO (s6.get 1) : Nat) : Int) = (z : Int) := by rw [unhide Y2]; simp only [sizeO]; rw [unhide HZ]
  replace hsz := hide hsz
  go_wp2_with fail
  refine (size_Z P10 1 (by decide) (z : Int) (unhide hsz)).mono ?_
  rintro e w11 ⟨rfl, rfl⟩
  go_wp2_with fail
  refine (known_any _).mono ?_
  rintro e w12 ⟨rfl, K12⟩
  go_wp2_with fail
  go_ret
  exact ⟨rfl, (unhide B10).trans (K12.mono (unhide P10).bs)⟩
end Go.Proofs.Ytaogokgklkdmpaa
