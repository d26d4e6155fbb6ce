/-
  BlockCuts: what is cut away is noughts when the file grows again, and its blocks are given back.
-/
import Derived.Test.YtaogokgklkdmpaaWithin
import Derived.Deep.Cut
namespace Go.Proofs.Ytaogokgklkdmpaa
open Go.RowKit Go.Maps

theorem cut_good {s : S} {f : Int} {x : F} (hx : s.get f = some x) (z : Nat) (hz : z ≤ 1024) : cutE (s.get f) (z : Int) = 0 ∧ (cutS s f (z : Int)).get f = some (x.cut z) := by
  have h1 : ¬ (z : Int) < 0 := by omega
  have h2 : ¬ (1024 : Int) < (z : Int) := by omega
  simp only [cutE, cutS, hx, if_neg h1, if_neg h2, Int.toNat_natCast, true_and]
  rw [S.get_put hx, if_pos rfl]
theorem cnt_lt (n q : Nat) : cnt n (fun k => decide (k < q)) = min n q := by
  induction n with
  | zero => simp [cnt]
  | succ n ih =>
    rw [cnt_succ, ih]
    by_cases h : n < q
    · simp [h]; omega
    · simp [h]; omega
theorem cuts_used (n r : Nat) (hn : n ≤ 1024) : cnt 64 (cutH (layH F.empty.has 0 n) r) = (min n r + 15) / 16 := by
  have e : cnt 64 (cutH (layH F.empty.has 0 n) r) = cnt 64 (fun k => decide (k < (min n r + 15) / 16)) := by
    refine cnt_congr fun k _ => ?_
    simp only [cutH, layH, F.empty, Bool.false_or]
    rw [← Bool.decide_and, decide_eq_decide]
    omega
  rw [e, cnt_lt]
  omega
set_option maxRecDepth 100000 in
set_option maxHeartbeats 2000000 in
theorem cuts_walk (a0 : Option Addr) (len0 cap0 : Nat) (a1 a2 : Int) (w : World) (h0 : BytesAt w a0 len0 cap0) :
    Calls Try.prog 8 #[.slice a0 len0 cap0, I a1, I a2] w fun e w' => e = .returned (.bool true) ∧ Below w.heap.size w w' := by
  obtain ⟨l0, lc0, lm0, g0, H0⟩ := h0
  replace H0 := hide H0
  go_enter Try.func8, Try.ntmps8
  go_wp2_with fail
  refine (new_Z _ 256 rfl (by omega) _).mono ?_
  rintro e w1 ⟨p, rfl, P, B⟩
  go_upto_if 26 with fail
  go_cut [0] from 14 (fun v wc => ∃ (n : Nat), n ≤ 600 ∧ n ≤ len0 ∧ v = .slice a0 n cap0 ∧ wc = w1)
  case first =>
    by_cases hl : 600 < len0
    · have q1 : (600 : Int) < (len0 : Int) := by omega
      have q2 : (600 : Int) ≤ (cap0 : Int) := by omega
      go_wp2_with fail
      go_meet
      case rel => exact ⟨600, by omega, by omega, rfl, rfl⟩
    · have q1 : ¬ (600 : Int) < (len0 : Int) := by omega
      go_wp2_with fail
      go_meet
      case rel => exact ⟨len0, by omega, by omega, rfl, rfl⟩
  case rest =>
  obtain ⟨n0, hn0, hm0, rfl, rfl⟩ := hcut
  have I0 := hide ((unhide H0).take hm0)
  clear H0
  go_wp2_with fail
  refine (within_any _ _ _ (by omega) (by omega)).mono ?_
  rintro e w2 ⟨⟨r, hr, rfl⟩, rfl⟩
  go_wp2_with fail
  refine (within_any _ _ _ (by omega) (by omega)).mono ?_
  rintro e w3 ⟨⟨t, ht, rfl⟩, rfl⟩
  go_wp2_with fail
  refine (file_Z (s := ⟨256, []⟩) P 1 rfl (by decide) B).mono ?_
  clear P B
  rintro e w4 ⟨rfl, P, _, B⟩
  go_wp2_with fail
  obtain ⟨e1, y1, hy1, hb1, hs1, hh1, hl1⟩ := write_good (add_get 256) 0 n0 g0 (by omega) (by decide)
  refine (write_Z (s := (⟨256, []⟩ : S).add) P 1 (by decide) 0 (by decide) a0 n0 cap0 g0 ((unhide I0).base rfl (unhide B)) 0 e1 B).mono ?_
  clear P B
  rintro e w5 ⟨rfl, P, _, B⟩
  obtain ⟨s5, hs5⟩ : ∃ s5, s5 = writeS (⟨256, []⟩ : S).add 1 ((0 : Nat) : Int) n0 g0 := ⟨_, rfl⟩
  rw [← hs5] at hy1
  rw [show writeS (⟨256, []⟩ : S).add 1 0 n0 g0 = s5 from hs5.symm] at P
  clear hs5 e1 hl1
  obtain ⟨e2, hy2⟩ := cut_good hy1 r (by omega)
  have hk1 : y1.has = layH F.empty.has 0 n0 := hh1
  have E2 := hide e2
  have Y2 := hide hy2
  have B1 := hide hb1
  have K1 := hide hk1
  clear e2 hy2 hb1 hk1 hs1 hh1 hy1
  go_wp2_with fail
  refine (cut_Z P 1 (by decide) (r : Int) 0 (unhide E2) B).mono ?_
  clear P B
  rintro e w6 ⟨rfl, P, _, B⟩
  obtain ⟨s6, hs6⟩ : ∃ s6, s6 = cutS s5 1 (r : Int) := ⟨_, rfl⟩
  rw [← hs6] at Y2 P
  clear hs6 E2
  obtain ⟨kp, hkp⟩ : ∃ kp : Nat, kp = min n0 r := ⟨_, rfl⟩
  have kp1 : kp ≤ n0 := by omega
  have kp2 : kp ≤ r := by omega
  replace hkp := hide hkp
  go_upto_if 53 with fail
  go_cut [10] from 14 (fun v wd => v = I (kp : Int) ∧ wd = w6)
  case first =>
    by_cases hl : r < n0
    · have q1 : (r : Int) < (n0 : Int) := by omega
      go_wp2_with fail
      go_meet
      case rel =>
        rw [unhide hkp, Nat.min_eq_right (by omega)]
        exact ⟨rfl, rfl⟩
    · have q1 : ¬ (r : Int) < (n0 : Int) := by omega
      go_wp2_with fail
      go_meet
      case rel =>
        rw [unhide hkp, Nat.min_eq_left (by omega)]
        exact ⟨rfl, rfl⟩
  case rest =>
  obtain ⟨rfl, rfl⟩ := hcut
  obtain ⟨w6, hw6⟩ : ∃ x, x = wc := ⟨_, rfl⟩
  subst hw6
  obtain ⟨u, hu⟩ : ∃ u : Int, u = ((kp : Int) + 16 - 1) / 16 := ⟨_, rfl⟩
  have hsz : ((sizeO (s6.get 1) : Nat) : Int) = (r : Int) := by rw [unhide Y2]; rfl
  have hus : ((usedO (s6.get 1) : Nat) : Int) = u := by
    rw [unhide Y2]
    have : usedO (some (y1.cut r)) = (min n0 r + 15) / 16 := by
      rw [← cuts_used n0 r (by omega), ← unhide K1]
      rfl
    rw [this, hu, unhide hkp]
    omega
  have hus2 : u = ((kp : Int) + 16 - 1) / 16 := hu
  replace hsz := hide hsz
  replace hus := hide hus
  replace hus2 := hide hus2
  clear hu
  go_wp2_with fail
  refine (size_Z P 1 (by decide) (r : Int) (unhide hsz)).mono ?_
  rintro e w7 ⟨rfl, rfl⟩
  go_wp2_with fail
  refine (used_Z P 1 (by decide) u (unhide hus)).mono ?_
  rintro e w8 ⟨rfl, rfl⟩
  rw [unhide hus2]
  clear hus hus2 hsz
  obtain ⟨q, hq⟩ : ∃ q : Nat, q = r + t := ⟨_, rfl⟩
  have hqe : ((r : Int) + (t : Int)) = (q : Int) := by omega
  have hq1 : q ≤ 1000 := by omega
  have hq2 : r ≤ q := by omega
  replace hq := hide hq
  replace hqe := hide hqe
  obtain ⟨e3, hy3⟩ := cut_good (unhide Y2) q (by omega)
  replace e3 := hide e3
  replace hy3 := hide hy3
  go_wp2_with fail
  rw [unhide hqe]
  refine (cut_Z P 1 (by decide) (q : Int) 0 (unhide e3) B).mono ?_
  clear P B
  rintro e w9 ⟨rfl, P, _, B⟩
  obtain ⟨s9, hs9⟩ : ∃ s9, s9 = cutS s6 1 (q : Int) := ⟨_, rfl⟩
  rw [← hs9] at hy3 P
  clear hs9 e3
  have hrm : readM (s9.get 1) 0 2000 = q := by
    rw [unhide hy3]
    simp only [readM]
    show min 2000 (q - 0) = q
    omega
  have hre : readE (s9.get 1) 0 2000 = 0 := by rw [unhide hy3]; rfl
  replace hrm := hide hrm
  replace hre := hide hre
  go_wp2_with fail
  refine (read_Z P 1 (by decide) 0 2000 (by decide) 0 (unhide hre) q (unhide hrm) B).mono ?_
  clear P B
  rintro e w10 ⟨v, rfl, S10, K10, P, B⟩
  have hmk := make_run q (by omega)
  obtain ⟨w11, hw11⟩ : ∃ x, x = w10.alloc (.cells (lst (fun _ => 0) 0 q).toArray 5) := ⟨_, rfl⟩
  have G11 : w11.heap[w10.heap.size]? = some (.cells (lst (fun _ => 0) 0 q).toArray 5) := by rw [hw11]; exact heap_alloc_new _ _
  have K11 : Below w10.heap.size w10 w11 := by rw [hw11]; exact (Below.refl _ w10).alloc (Nat.le_refl _) _
  have hkc : (kp : Int) ≤ (cap0 : Int) := by omega
  have hcp : ∃ w12, (∀ ty, (Builtin.copy_ #[28, 28] ty #[.slice (some ⟨w10.heap.size, 0, none⟩) q q, .slice a0 kp cap0]).run Try.prog w11 = .ok (I (kp : Int)) w12) ∧ w12.heap[w10.heap.size]? = some (.cells (lst (lay (fun _ => 0) 0 kp g0) 0 q).toArray 5) ∧ Below w10.heap.size w10 w12 := by
    by_cases hk0 : kp = 0
    · refine ⟨w11, fun ty => ?_, ?_, K11⟩
      · have := run_copy_none (P := Try.prog) w11 28 28 ty 5 (some ⟨w10.heap.size, 0, none⟩) a0 q q kp cap0 Try.underlying28 size5 (by rw [hk0]; exact Nat.zero_min _)
        rw [this, hk0]
        rfl
      · rw [hk0, lay_zero]
        exact G11
    · obtain ⟨w12, h1, h2, h3, _⟩ := copy_in (m := q) (c := q) (r := 0) G11 ((((unhide I0).take kp1).base rfl (unhide B)).below K11) (by omega) (by omega) (by omega)
      exact ⟨w12, h1, h2, K11.trans (h3.base K11.size (by simp))⟩
  obtain ⟨w12, hcp, G12, K12⟩ := hcp
  rw [hw11] at hcp
  have HG := hide G12
  have HK := hide K12
  clear hw11 G11 K11 G12 K12
  have S12 : Sl 0 w12 v (byteO (s9.get 1)) (0 : Int).toNat q := by
    rcases unhide S10 with h | ⟨g, _, h2, h3⟩
    · exact .inl h
    · exact .inr ⟨g, Nat.zero_le _, h2, ((unhide HK).block g (lt_of_heap h3)).trans h3⟩
  have hc1 := conv_sl S12
  have hc2 := conv_bs (Bs.of_row (unhide HG)) q
  have eT : str (byteO (s9.get 1)) (0 : Int).toNat q = str (fun j => lay (fun _ => 0) 0 kp g0 (0 + j)) 0 q := by
    refine str_congr fun j hj => ?_
    rw [unhide hy3]
    have e1 := unhide hkp
    simp only [byteO, F.cut, cutF, unhide B1, lay, F.empty]
    have ez : (0 : Int).toNat + j = j := by simp
    rw [ez, if_pos (by omega), Nat.zero_add, Nat.zero_add]
    by_cases hjk : j < kp
    · rw [if_pos (by omega), if_pos (by omega), if_pos (by omega)]
      congr 1
      omega
    · by_cases hjr : j < r
      · rw [if_pos hjr, if_neg (by omega), if_neg (by omega)]
      · rw [if_neg hjr, if_neg (by omega)]
  rw [eT] at hc1
  obtain ⟨T, hT⟩ : ∃ T, T = str (fun j => lay (fun _ => 0) 0 kp g0 (0 + j)) 0 q := ⟨_, rfl⟩
  rw [← hT] at hc1 hc2
  clear eT hT HG S12 S10 hrm hre K10
  go_wp2_with fail
  refine (known_any _).mono ?_
  rintro e w13 ⟨rfl, K13⟩
  go_wp2_with fail
  go_ret
  have hb := (unhide P).bs
  exact ⟨rfl, ((unhide B).trans ((unhide HK).mono hb)).trans (K13.mono (Nat.le_trans hb (unhide HK).size))⟩
end Go.Proofs.Ytaogokgklkdmpaa
