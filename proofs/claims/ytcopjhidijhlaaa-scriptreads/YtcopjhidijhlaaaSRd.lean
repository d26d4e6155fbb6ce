/-
  ScriptReads' walk.
-/
import Derived.Test.YtcopjhidijhlaaaSM
import Derived.Test.YtcopjhidijhlaaaSL
namespace Go.Proofs.Ytcopjhidijhlaaa.Cl
open Go.RowKit
attribute [local go_sem ↓] Go.wp_at_zero Go.wp_at_succ

set_option maxRecDepth 100000 in
set_option maxHeartbeats 2000000 in
theorem sreads_walk (a0 : Option Addr) (b : List UInt8) (cb : Nat) (ps : List Ip) (a : Option Addr) (n cap : Nat) (at' turn : Int) (w : World) (hb : By w w.heap.size a0 b ∧ b.length ≤ cb ∧ cb ≤ maxLen ∧ (a0 = none → cb = 0)) (hsz : b.length ≤ 140737488351232) (hn : n = ps.length) (hc : n ≤ cap) (hm : cap ≤ maxLen) (hI : Ips w w.heap.size a ps) (_ht : 0 ≤ turn ∧ turn ≤ 255) :
    Calls Try.prog 4 #[.slice a0 b.length cb, .slice a n cap, I at', .int .u8 turn] w fun e w' => e = .returned (.bool true) ∧ Below w.heap.size w w' := by
  have q1 : (n : Int) ≤ (cap : Int) := by omega
  have q2 : (cap : Int) ≤ 9223372036854775807 := by unfold maxLen at hm; omega
  obtain ⟨m, qs0, hm0, hq0, hI0, hcase⟩ : ∃ (m : Nat) (qs0 : List Ip), m = qs0.length ∧ m ≤ 30 ∧ Ips w w.heap.size a qs0 ∧ ((30 < n ∧ m = 30) ∨ (¬ 30 < n ∧ m = n)) := by
    by_cases h20 : 30 < n
    · exact ⟨30, ps.take 30, by rw [List.length_take]; omega, Nat.le_refl _, hI.take 30, .inl ⟨h20, rfl⟩⟩
    · exact ⟨n, ps, hn, by omega, hI, .inr ⟨h20, rfl⟩⟩
  have HI := hide hI0
  have HM := hide (⟨hm0, hq0⟩ : _ ∧ _)
  have HBB := hide (⟨hb.1, hb.2.1, hb.2.2.1, hb.2.2.2, hsz⟩ : _ ∧ _ ∧ _ ∧ _ ∧ _)
  obtain ⟨nb, hnb⟩ : ∃ nb, b.length = nb := ⟨_, rfl⟩
  rw [hnb]
  replace hnb := hide hnb
  clear hn hI hm0 hq0 hI0 hc hm hb hsz
  go_enter Try.func4, Try.ntmps4
  go_upto_if 15 with fail
  go_cut [1] from 16 to 17 (fun v wc => v = .slice a m cap ∧ w = wc)
  case first =>
    rcases hcase with ⟨h40, rfl⟩ | ⟨h40, rfl⟩
    · have j40 : (30 : Int) < (n : Int) := by omega
      have j41 : (30 : Int) ≤ (cap : Int) := by omega
      go_wp2_with fail
      go_meet
      case rel => exact ⟨rfl, rfl⟩
    · have j40 : ¬ (30 : Int) < (m : Int) := by omega
      go_wp2_with fail
      go_meet
      case rel => exact ⟨rfl, rfl⟩
  case rest =>
  obtain ⟨rfl, rfl⟩ := hcut
  clear hcase q1
  have HE := hide (fencode_any qs0 a m cap (unhide HM).1 w (unhide HI))
  obtain ⟨L, hL⟩ : ∃ L, fsts qs0 = L := ⟨_, rfl⟩
  rw [hL] at HE
  have hel : (eb L).length ≤ 400000 := by
    have hl0 : L.length = m := by rw [← hL]; simp; exact (unhide HM).1.symm
    have hm20 := (unhide HM).2
    by_cases hz : encR L = 0
    · rw [eb_yes hz]
      unfold encR at hz
      rw [if_neg (by omega)] at hz
      have := encs_len (whys_ok hz)
      omega
    · rw [eb_no hz]
      simp
  have hel0 : encR L ≠ 0 → (eb L).length = 0 := fun h => by rw [eb_no h]; rfl
  clear hL
  go_wp2_with fail
  refine (unhide HE).mono ?_
  rintro e W1 ⟨v1, rfl, r1, be1⟩
  obtain ⟨a1, n1, c1, rfl⟩ := r1.sl
  have hn1 := r1.len
  generalize encR L = z at *
  generalize eb L = l1 at *
  have HB1 := hide be1
  have HR1 := hide (⟨r1, hn1, hel⟩ : _ ∧ _ ∧ _)
  obtain ⟨bb, hbb⟩ : ∃ bb : Bool, (bb = true ∧ z = 0 ∧ 0 < n1) ∨ (bb = false ∧ (z ≠ 0 ∨ n1 = 0)) := by
    by_cases h1 : z = 0
    · by_cases h2 : n1 = 0
      · exact ⟨false, .inr ⟨rfl, .inr h2⟩⟩
      · exact ⟨true, .inl ⟨rfl, h1, by omega⟩⟩
    · exact ⟨false, .inr ⟨rfl, .inl h1⟩⟩
  have hn4 : n1 ≤ 400000 := by omega
  clear HE r1 be1 hel hel0 hn1
  go_upto_region 4 with fail
  go_cut [29] from 23 to 28 (fun v wc => wc = W1 ∧ v = .bool bb)
  case first =>
    rcases hbb with ⟨rfl, hz, h1⟩ | ⟨rfl, hz | h1⟩
    · have h3 : (z == 0) = true := by simpa using hz
      have h2 : (0 : Int) < (n1 : Int) := by omega
      clear hz
      go_wp2_with fail
      go_meet
      case rel => exact ⟨rfl, rfl⟩
    · have h3 : (z == 0) = false := by simpa using hz
      clear hz
      go_wp2_with fail
      go_meet
      case rel => exact ⟨rfl, rfl⟩
    · have h2 : ¬ (0 : Int) < (n1 : Int) := by omega
      by_cases hz : z = 0
      · have h3 : (z == 0) = true := by simpa using hz
        have h5 := hide h1
        clear hz h1
        go_wp2_with fail
        go_meet
        case rel => exact ⟨rfl, by first | rfl | simp [unhide h5]⟩
      · have h3 : (z == 0) = false := by simpa using hz
        clear hz h1
        go_wp2_with fail
        go_meet
        case rel => exact ⟨rfl, rfl⟩
  case rest =>
  obtain ⟨rfl, rfl⟩ := hcut
  go_upto_if 29 with fail
  go_cut [0, 11] from 30 to 46 (fun v0 v11 wd => ∃ l, (∃ a2 c2, v0 = .slice a2 l.length c2 ∧ Hid (By wd wd.heap.size a2 l ∧ l.length ≤ c2 ∧ c2 ≤ maxLen ∧ (a2 = none → c2 = 0))) ∧ Hid (l.length ≤ 140737489000000 ∧ Below w.heap.size w wd))
  case first =>
    rcases hbb with ⟨rfl, hz, h1⟩ | ⟨rfl, -⟩
    · have j1 : (0 : Int) < (n1 : Int) := by omega
      have j2 : (n1 : Int) ≤ 400000 := by omega
      have j3 : (0 : Int) ≤ (n1 : Int) - 1 := by omega
      have HH := hide h1
      clear hz h1
      go_wp2_with fail
      refine (within_any at' ((n1 : Int) - 1) _ (by omega) (by omega)).mono ?_
      rintro e W' ⟨⟨k, hk, rfl⟩, hW'⟩
      rw [hW']
      clear hW' W'
      obtain ⟨r1, hn1, hel⟩ := unhide HR1
      obtain ⟨g, c9, e9, -, lc, cm, hbg⟩ := r1.some (by rintro rfl; have := unhide HH; simp at hn1; omega)
      simp at e9
      obtain ⟨rfl, -, rfl⟩ := e9
      have hkl : k < l1.length := by omega
      obtain ⟨⟨y, hy⟩, hf, -, hput⟩ := bwPut r1 hkl
      obtain ⟨d, hd⟩ := xor_u8 (y.toNat : Int) turn
      have r2 := hput d
      have q0 : (0 : Int) ≤ (k : Int) := by omega
      have q1 : (k : Int) < (n1 : Int) := by omega
      have q3 : k < n1 := by omega
      have hB2 : Below w.heap.size w (wc.setCell ⟨g, k, none⟩ (.int .u8 (d.toNat : Nat))) := (unhide HB1).setCell (p := ⟨g, k, none⟩) hbg _
      obtain ⟨W5, hW5⟩ : ∃ X, wc.setCell ⟨g, k, none⟩ (.int .u8 (d.toNat : Nat)) = X := ⟨_, rfl⟩
      rw [hW5] at r2 hB2
      have hby5 := ((unhide HBB).1.below hB2).mono hB2.size
      have hls : (l1.set k d).length = l1.length := List.length_set ..
      obtain ⟨v6, W6, run6, r6, k6⟩ := bwAppW r2 hB2.size 22 a0 b nb cb (unhide hnb).symm hby5 (by have := (unhide HBB).2.2.2.2; omega)
      obtain ⟨a6, c6, e6, by6, hl6, hm6, hn6⟩ := bwForm5 r6
      subst e6
      have HO := hide (⟨(⟨by6, hl6, hm6, hn6⟩ : _ ∧ _ ∧ _ ∧ _), (show (l1.set k d ++ b).length ≤ 140737489000000 by rw [List.length_append]; have := (unhide HBB).2.2.2.2; omega), hB2.trans k6.be⟩ : _ ∧ _ ∧ _)
      clear r1 r2 hput by6 hl6 hm6 hn6 k6 r6 hby5 hB2 hls hbg lc cm hn1 hel hk hkl HH
      generalize hLL : l1.set k d ++ b = LL at *
      clear hLL
      go_wp2_with (at_builtin; refine wpList_app rfl _ _ 22 22 rfl 22 rfl _ _ (by rfl) (by rfl) _ _ run6 ?_; clear run6)
      go_meet
      case rel => exact ⟨LL, ⟨a6, c6, rfl, hide (unhide HO).1⟩, hide (unhide HO).2⟩
    · go_wp2_with fail
      go_meet
      case rel => exact ⟨b, ⟨a0, cb, by rw [unhide hnb], hide ⟨((unhide HBB).1.below (unhide HB1)).mono (unhide HB1).size, (unhide HBB).2.1, (unhide HBB).2.2.1, (unhide HBB).2.2.2.1⟩⟩, hide ⟨by have := (unhide HBB).2.2.2.2; omega, unhide HB1⟩⟩
  case rest =>
  obtain ⟨l, ⟨a2, c2, rfl, hl2⟩, hlb⟩ := hcut
  obtain ⟨hby, hlc, hcm, hnn⟩ := unhide hl2
  have HRM := hide (roomy_any a2 l l.length c2 rfl (Nat.le_trans (unhide hlb).1 (by omega)) wc hby)
  have HB2 := hide (unhide hlb).2
  have HLL := hide (unhide hlb).1
  clear HR1 HB1 hlb hnb HBB hby hlc hcm hnn hbb hn4
  obtain ⟨n, hn⟩ : ∃ n, l.length = n := ⟨_, rfl⟩
  rw [hn]
  have HN := hide hn
  rw [hn] at HRM
  clear hn
  go_wp2_with fail
  refine (unhide HRM).mono ?_
  rintro e W3 ⟨⟨g, rfl, hgy⟩, be3⟩
  have HB3 := hide ((unhide HB2).trans (be3.mono (unhide HB2).size))
  have hby3 : By W3 W3.heap.size a2 l := ((unhide hl2).1.below be3).mono be3.size
  have hgl : By W3 W3.heap.size (some ⟨g, 0, none⟩) l := by
    have h := hgy.take l.length
    rw [List.take_left] at h
    exact h
  have hlm : l.length + 80 ≤ maxLen := by have := unhide HLL; unfold maxLen; omega
  have HP := hide (sdecode_any l (some ⟨g, 0, none⟩) n (n + 80) (unhide HN).symm (by have := unhide HN; omega) (by have := unhide HN; omega) W3 hgl)
  have HY3 := hide (⟨hby3, hgy⟩ : _ ∧ _)
  have j1 : (n : Int) ≤ (n : Int) + 80 := by omega
  have j0 : (0 : Int) ≤ (n : Int) := by omega
  have j2 : (n : Int) + 80 ≤ 140737489000080 := by have := unhide HLL; have := unhide HN; omega
  clear be3 HB2 hgy hby3 hgl HRM hlm
  go_wp2_with fail
  refine (unhide HP).mono ?_
  rintro e W4 ⟨v4, ts, rfl, hts, ht4, be4⟩
  obtain ⟨ta, tc, rfl, hti, -⟩ := ht4.form
  have hB4 := (unhide HB3).trans (be4.mono (unhide HB3).size)
  have hby4 := ((unhide HY3).1.below be4).mono be4.size
  have HD := hide (fdecode_any l a2 n c2 (unhide HN).symm (by have := (unhide hl2).2.1; have := unhide HN; omega) (unhide hl2).2.2.1 (unhide hl2).2.2.2 W4 hby4)
  have HT := hide (⟨hts, hti, hby4, ((unhide HY3).2.below be4).mono be4.size⟩ : _ ∧ _ ∧ _ ∧ _)
  obtain ⟨z4, hz4⟩ : ∃ z4, ts.length = z4 := ⟨_, rfl⟩
  rw [hz4]
  have HZ4 := hide hz4
  have HB4 := hide hB4
  clear HP HB3 HY3 hts ht4 be4 hti hB4 hby4 hz4
  go_wp2_with fail
  refine (unhide HD).mono ?_
  rintro e W5 ⟨v5, us, rfl, hus, hu5, be5⟩
  obtain ⟨ua, uc, rfl, hui, -⟩ := hu5.form
  obtain ⟨hts, hti, hby4, hgy4⟩ := unhide HT
  have hff : fsts ts = fsts us := hts.trans hus.symm
  have hul : us.length = z4 := by
    have h1 := congrArg List.length hff
    have h2 := unhide HZ4
    simp only [fsts, List.length_map] at h1
    omega
  have hz1024 : z4 ≤ 1000000 := by
    have h1 := congrArg List.length hts
    have h2 := (decs_len 1024 l).1
    have h3 := unhide HZ4
    simp at h1
    omega
  rw [hul]
  have HK := hide (items_same ts us hff ta ua z4 z4 tc uc (unhide HZ4).symm hul.symm hz1024 W5 ((hti.below be5).mono be5.size) hui)
  have HY5 := hide (⟨(hby4.below be5).mono be5.size, (hgy4.below be5).mono be5.size⟩ : _ ∧ _)
  have HB5 := hide ((unhide HB4).trans (be5.mono (unhide HB4).size))
  clear HD HT HB4 hus hu5 be5 hui hts hti hby4 hgy4 hff hul
  go_wp2_with fail
  refine (unhide HK).mono ?_
  rintro e W8 ⟨rfl, be8⟩
  have HB8 := hide ((unhide HB5).trans (be8.mono (unhide HB5).size))
  have HIn := hide (intact_any a2 l n c2 g (n + 80) (unhide HN).symm rfl (by have := unhide HLL; have := unhide HN; omega) W8 (((unhide HY5).1.below be8).mono be8.size) (((unhide HY5).2.below be8).mono be8.size))
  clear HB5 HK HY5 be8
  go_wp2_with fail
  refine (unhide HIn).mono ?_
  rintro e W9 ⟨rfl, be9⟩
  have HB9 := hide ((unhide HB8).trans (be9.mono (unhide HB8).size))
  clear be9 HB8 HIn
  go_wp2_with fail
  refine (sknown_any W9).mono ?_
  rintro e W10 ⟨rfl, be10⟩
  have HB10 := hide ((unhide HB9).trans (be10.mono (unhide HB9).size))
  clear be10 HB9
  go_wp2_with fail
  go_ret
  exact ⟨rfl, unhide HB10⟩
end Go.Proofs.Ytcopjhidijhlaaa.Cl
