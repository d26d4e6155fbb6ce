/-
  CallReads' walk.
-/
import Derived.Test.YtnkkfomekdipiaaDoorCReadA
namespace Go.Proofs.YtnkkfomekdipiaaDoor.Cl
open Go.RowKit
attribute [local go_sem ↓] Go.wp_at_zero Go.wp_at_succ

set_option maxRecDepth 100000 in
set_option maxHeartbeats 4000000 in
theorem reads_walk (a0 : Option Addr) (bb : List UInt8) (cb : Nat) (x : Cc) (a : Option Addr) (cap : Nat) (p turn : Int) (w : World) (hb : By w w.heap.size a0 bb ∧ bb.length ≤ cb ∧ cb ≤ maxLen ∧ (a0 = none → cb = 0)) (hsz : bb.length ≤ 140737488351232) (hx : CallAt w x a cap) (_ht : 0 ≤ turn ∧ turn ≤ 255) (hL : Lai w) :
    Calls Tryd.prog 5 #[.slice a0 bb.length cb, .agg (x.cs (.slice a x.data.length cap)), I p, .int .u8 turn] w fun e w' => e = .returned (.bool true) ∧ Below w.heap.size w w' := by
  have HM := hide hb
  obtain ⟨V, hV, hs, g0, hB⟩ := alloc1 w (.cells (x.cs (.slice a x.data.length cap)) 27)
  have HL := hide (show ∀ W, Below w.heap.size w W → Lai W from fun W g => hL.below g)
  have HX := hide (show ∀ W, Below w.heap.size w W → By W w.heap.size a x.data from fun W g => hx.by'.below g)
  obtain ⟨b0, b1, b2, b3, b4, b5, b6, b7, b8⟩ := cells9 g0
  have HEY := hide (fun hr => eenc_yes x a _ cap rfl hr V ((unhide HX V hB).mono hB.size))
  have HEN := hide (fun hr => eenc_no x a _ cap rfl hr V)
  have HSZ := hide hsz
  clear hb hx hL hsz g0 hs
  have HB := hide hB
  clear hB
  obtain ⟨nb, hnb⟩ : ∃ n, bb.length = n := ⟨_, rfl⟩
  rw [hnb]
  replace hnb := hide hnb
  go_enter Tryd.func5, Tryd.ntmps5
  go_wp2_with fail
  obtain ⟨r, hr⟩ : ∃ r, x.right = r := ⟨_, rfl⟩
  have HE : ∃ (l1 : List UInt8), (r = 0 → l1 = x.enc) ∧ Calls Tryd.prog 15 #[.agg (x.cs (.slice a x.data.length cap))] V fun e w' => ∃ v, e = .returned (.tuple #[v, I r]) ∧ (r = 0 → Bw w' V.heap.size v l1) ∧ (r ≠ 0 → v = .slice none 0 0) ∧ Below V.heap.size V w' := by
    refine ⟨x.enc, fun _ => rfl, ?_⟩
    by_cases h : r = 0
    · refine (unhide HEY (by rw [hr]; exact h)).mono ?_
      rintro e w' ⟨v, rfl, h1, h2⟩
      exact ⟨v, by rw [h], fun _ => h1, fun h3 => absurd h h3, h2⟩
    · refine (unhide HEN (by rw [hr]; exact h)).mono ?_
      rintro e w' ⟨rfl, h2⟩
      exact ⟨_, by rw [hr], fun h3 => absurd h3 h, fun _ => rfl, h2⟩
  obtain ⟨l1, hl1, HE⟩ := HE
  refine HE.mono ?_
  rintro e W1 ⟨v1, rfl, r1, hv1, be1⟩
  have HB1 := hide ((unhide HB).trans (be1.mono (unhide HB).size))
  have HR1 := hide (⟨hl1, r1, hv1⟩ : _ ∧ _ ∧ _)
  replace hr := hide hr
  clear HE hl1 r1 hv1 be1 HEY HEN b0 b1 b2 b3 b4 b5 b6 b7 b8 hV
  have hform : ∃ a1 n1 c1, v1 = .slice a1 n1 c1 := by
    by_cases h : r = 0
    · exact ((unhide HR1).2.1 h).sl
    · exact ⟨none, 0, 0, (unhide HR1).2.2 h⟩
  obtain ⟨a1, n1, c1, rfl⟩ := hform
  have hn1 : r = 0 → n1 = l1.length ∧ l1.length = 27 + x.path.length + x.dst.length + x.data.length := fun h => ⟨((unhide HR1).2.1 h).len, by rw [(unhide HR1).1 h]; exact x.enc_len⟩
  have hr5 : r = 0 → l1.length ≤ 20000 := fun h => by
    obtain ⟨-, -, h1, h2, h3⟩ := Cc.right_ok ((unhide hr).trans h)
    have := (hn1 h).2
    omega
  have HN := hide (fun h => (⟨(hn1 h).1, (show 0 < n1 by have := hn1 h; omega), hr5 h⟩ : _ ∧ _ ∧ _))
  clear hn1 hr5
  go_upto_region 2 with fail
  go_cut [30] from 24 to 29 (fun v wc => wc = W1 ∧ v = .bool (r == 0))
  case first =>
    by_cases hr0 : r = 0
    · have h1 : 0 < n1 := (unhide HN hr0).2.1
      have h2 : (0 : Int) < (n1 : Int) := by omega
      have h3 : (r == 0) = true := by simpa using hr0
      go_wp2_with fail
      go_meet
      case rel => exact ⟨rfl, by simp [hr0]⟩
    · have h3 : (r == 0) = false := by simpa using hr0
      go_wp2_with fail
      go_meet
      case rel => exact ⟨rfl, by simp [hr0]⟩
  case rest =>
  obtain ⟨rfl, rfl⟩ := hcut
  obtain ⟨kk, hkk⟩ : ∃ kk, (r == 0) = kk := ⟨_, rfl⟩
  rw [hkk]
  replace hkk := hide hkk
  go_upto_if 30 with fail
  go_cut [0, 9, 11] from 31 to 53 (fun v0 v9 v11 wd => ∃ l, (∃ a2 c2, v0 = .slice a2 l.length c2 ∧ Hid (By wd wd.heap.size a2 l ∧ l.length ≤ c2 ∧ c2 ≤ maxLen ∧ (a2 = none → c2 = 0))) ∧ Hid (l.length ≤ 140737488371232 ∧ Below w.heap.size w wd))
  case first =>
    cases kk with
    | false =>
      go_wp2_with fail
      go_meet
      case rel => exact ⟨bb, ⟨a0, cb, by rw [unhide hnb], hide ⟨((unhide HM).1.below (unhide HB1)).mono (unhide HB1).size, (unhide HM).2⟩⟩, hide ⟨by have := unhide HSZ; omega, unhide HB1⟩⟩
    | true =>
      have hr0 : r = 0 := by simpa using unhide hkk
      obtain ⟨h1, h2, h3⟩ := unhide HN hr0
      have j1 : (0 : Int) < (n1 : Int) := by omega
      have j2 : (n1 : Int) ≤ 20000 := by omega
      have HH := hide (⟨h1, h3, (unhide HR1).2.1 hr0⟩ : _ ∧ _ ∧ _)
      clear h1 h2 h3 HN HR1 hr0 hkk
      go_wp2_with fail
      refine (within_any p _ _ (by omega) (by omega)).mono ?_
      rintro e W' ⟨⟨k, hk, rfl⟩, hW'⟩
      rw [hW']
      clear hW' W'
      obtain ⟨h1, h3, r1⟩ := unhide HH
      obtain ⟨g, c9, e9, -, lc, cm, hbg⟩ := r1.some (by rintro rfl; simp at h1; omega)
      simp at e9
      obtain ⟨rfl, rfl, rfl⟩ := e9
      have hkl : k < l1.length := by omega
      obtain ⟨⟨y, hy⟩, hf, -, hput⟩ := bwPut r1 hkl
      obtain ⟨d, hd⟩ := xor_u8 (y.toNat : Int) turn
      have r2 := hput d
      have q0 : (0 : Int) ≤ (k : Int) := by omega
      have q1 : (k : Int) < (l1.length : Int) := by omega
      have q2 : (k : Int) ≤ (c1 : Int) := by omega
      have q3 : k ≤ c1 := by omega
      have hBV := unhide HB
      have hB2 : Below w.heap.size w (wc.setCell ⟨g, k, none⟩ (.int .u8 (d.toNat : Nat))) := (unhide HB1).setCell (p := ⟨g, k, none⟩) (Nat.le_trans hBV.size hbg) _
      obtain ⟨W5, hW5⟩ : ∃ X, wc.setCell ⟨g, k, none⟩ (.int .u8 (d.toNat : Nat)) = X := ⟨_, rfl⟩
      rw [hW5] at r2 hB2
      have hb5 : V.heap.size ≤ W5.heap.size := by
        rw [← hW5]
        have := lt_of_cell hy
        simp [World.setCell]
        omega
      have hby5 := ((unhide HM).1.below hB2).mono hB2.size
      have hsz5 := unhide HSZ
      have hnb5 := unhide hnb
      have hbw : w.heap.size ≤ V.heap.size := hBV.size
      have HB2 := hide hB2
      have hls : (l1.set k d).length = l1.length := List.length_set ..
      by_cases m3 : p.tmod 3 = 0
      · have m4 : (p.tmod 3 == 0) = true := by simpa using m3
        have r3 := bwCut r2 (k := k) (by rw [hls]; omega)
        have ht3 : ((l1.set k d).take k).length ≤ 20000 := by rw [List.length_take]; omega
        obtain ⟨v6, W6, run6, r6, k6⟩ := bwAppW r3 hb5 22 a0 bb nb cb hnb5.symm hby5 (by omega)
        obtain ⟨a6, c6, e6, by6, hl6, hm6, hn6⟩ := bwForm5 r6
        subst e6
        have HO := hide (⟨(⟨by6, hl6, hm6, hn6⟩ : _ ∧ _ ∧ _ ∧ _), (show ((l1.set k d).take k ++ bb).length ≤ 140737488371232 by rw [List.length_append]; omega), hB2.trans (k6.be.mono hbw)⟩ : _ ∧ _ ∧ _)
        clear r1 r2 r3 hput h1 h3 HH by6 hl6 hm6 hn6 k6 r6 hby5 hsz5 hnb5 hBV hB2 hls ht3 m3 hbw hb5 hbg lc cm
        generalize hL : (l1.set k d).take k ++ bb = L at *
        clear hL
        go_wp2_with (at_builtin; refine wpList_app rfl _ _ 22 22 rfl 22 rfl _ _ (by rfl) (by rfl) _ _ run6 ?_)
        go_meet
        case rel => exact ⟨L, ⟨a6, c6, rfl, hide (unhide HO).1⟩, hide (unhide HO).2⟩
      · have m4 : (p.tmod 3 == 0) = false := by simpa using m3
        obtain ⟨v6, W6, run6, r6, k6⟩ := bwAppW r2 hb5 22 a0 bb nb cb hnb5.symm hby5 (by omega)
        obtain ⟨a6, c6, e6, by6, hl6, hm6, hn6⟩ := bwForm5 r6
        subst e6
        have HO := hide (⟨(⟨by6, hl6, hm6, hn6⟩ : _ ∧ _ ∧ _ ∧ _), (show (l1.set k d ++ bb).length ≤ 140737488371232 by rw [List.length_append]; omega), hB2.trans (k6.be.mono hbw)⟩ : _ ∧ _ ∧ _)
        clear r1 r2 hput h1 h3 HH by6 hl6 hm6 hn6 k6 r6 hby5 hsz5 hnb5 hBV hB2 hls m3 hbw hb5 hbg lc cm
        generalize hL : l1.set k d ++ bb = L at *
        clear hL
        go_wp2_with (at_builtin; refine wpList_app rfl _ _ 22 22 rfl 22 rfl _ _ (by rfl) (by rfl) _ _ run6 ?_)
        go_meet
        case rel => exact ⟨L, ⟨a6, c6, rfl, hide (unhide HO).1⟩, hide (unhide HO).2⟩
  case rest =>
  obtain ⟨l, ⟨a2, c2, rfl, hl2⟩, hlb⟩ := hcut
  obtain ⟨hby, hlc, hcm, hnn⟩ := unhide hl2
  have HRM := hide (roomy_any a2 l l.length c2 rfl (Nat.le_trans (unhide hlb).1 (by omega)) wc hby)
  have HB2 := hide (unhide hlb).2
  have HLL := hide (unhide hlb).1
  clear HN HR1 HB1 HSZ hlb hnb HX HB hr hkk hby hlc hcm hnn HM
  obtain ⟨n, hn⟩ : ∃ n, l.length = n := ⟨_, rfl⟩
  rw [hn]
  have HN := hide hn
  rw [hn] at HRM
  clear hn
  go_wp2_with fail
  refine (unhide HRM).mono ?_
  rintro e W3 ⟨⟨g, rfl, hgy⟩, be3⟩
  have HB3 := hide ((unhide HB2).trans (be3.mono (unhide HB2).size))
  have hby3 : By W3 W3.heap.size a2 l := ((unhide hl2).1.below be3).mono be3.size
  have hgl : By W3 W3.heap.size (some ⟨g, 0, none⟩) l := by
    have h := hgy.take l.length
    rw [List.take_left] at h
    exact h
  have hlm : l.length + 80 ≤ maxLen := by have := unhide HLL; unfold maxLen; omega
  have HP := hide (pdec l (some ⟨g, 0, none⟩) n (n + 80) (unhide HN).symm (by have := unhide HN; omega) (by have := unhide HN; omega) (fun e => by cases e) W3 hgl)
  have HY3 := hide (⟨hby3, hgy⟩ : _ ∧ _)
  have j1 : (n : Int) ≤ (n : Int) + 80 := by omega
  have j0 : (0 : Int) ≤ (n : Int) := by omega
  have j2 : (n : Int) + 80 ≤ 140737488371312 := by have := unhide HLL; have := unhide HN; omega
  clear be3 HB2 hgy hby3 hgl HRM hlm
  have hdl := dwhy_le l
  obtain ⟨y, hy⟩ : ∃ y, yy l = y := ⟨_, rfl⟩
  obtain ⟨m, hm⟩ : ∃ m, mm l = m := ⟨_, rfl⟩
  obtain ⟨why, hwhy⟩ : ∃ why, dwhy l = why := ⟨_, rfl⟩
  have HRD := hide (fun W (hb : By W W.heap.size a2 l) => rdec l a2 n c2 (unhide HN).symm (unhide hl2).2.1 (unhide hl2).2.2.1 (unhide hl2).2.2.2 W hb)
  rw [hy, hm, hwhy] at HP HRD
  rw [hwhy] at hdl
  clear hy hm hwhy
  obtain ⟨w0, w1⟩ := hdl
  go_wp2_with fail
  refine (unhide HP).mono ?_
  rintro e W4 ⟨⟨da, dk, rfl, dby⟩, be4⟩
  obtain ⟨V4, hV4, hs4, g4, hBV⟩ := alloc1 W4 (.cells Z0 27)
  obtain ⟨X1, X2, X3, X4, X5, X6, X7, X8, X9, ⟨y1, y2, y3, y4, y5, y6, y7, y8, y9⟩, ⟨s1, s2, s3, s4, s5, s6, s7, s8, s9⟩, ⟨f1, f2, f3, f4, f5, f6, f7, f8, f9⟩, gX, grX⟩ := store9 g4 (I y.op) (S y.path) (S y.dst) (I y.fd) (I y.fl) (I y.mo) (I y.n) (I y.m) (.slice da y.data.length dk)
  have hX49 : Below W4.heap.size W4 X9 := hBV.trans (grX.below (Nat.le_refl _) (by omega))
  have hX39 : Below W3.heap.size W3 X9 := be4.trans (hX49.mono be4.size)
  have HB5 := hide ((unhide HB3).trans (hX39.mono (unhide HB3).size))
  have hyX := ((unhide HY3).1.below hX39).mono hX39.size
  have hgX := ((unhide HY3).2.below hX39).mono hX39.size
  have HD := hide (unhide HRD X9 hyX)
  have HYX := hide (⟨gX, (dby.below hX49).mono hX49.size, hyX, hgX⟩ : _ ∧ _ ∧ _ ∧ _)
  generalize hp4 : W4.heap.size = p4 at *
  clear HP HRD HB3 HY3 dby be4 hBV g4 hs4 gX grX hX49 hX39 hyX hgX
  go_wp2_with fail
  refine (unhide HD).mono ?_
  rintro e W6 ⟨⟨ea, ek, rfl, eby⟩, be6⟩
  obtain ⟨V6, hV6, hs6, g6, hBV⟩ := alloc1 W6 (.cells Z0 27)
  clear y1 y2 y3 y4 y5 y6 y7 y8 y9 s1 s2 s3 s4 s5 s6 s7 s8 s9 f1 f2 f3 f4 f5 f6 f7 f8 f9 hV4
  obtain ⟨Y1, Y2, Y3, Y4, Y5, Y6, Y7, Y8, Y9, ⟨y1, y2, y3, y4, y5, y6, y7, y8, y9⟩, ⟨s1, s2, s3, s4, s5, s6, s7, s8, s9⟩, ⟨f1, f2, f3, f4, f5, f6, f7, f8, f9⟩, gY, grY⟩ := store9 g6 (I y.op) (S y.path) (S y.dst) (I y.fd) (I y.fl) (I y.mo) (I y.n) (I y.m) (.slice ea y.data.length ek)
  have hX69 : Below W6.heap.size W6 Y9 := hBV.trans (grY.below (Nat.le_refl _) (by omega))
  have hX59 : Below X9.heap.size X9 Y9 := be6.trans (hX69.mono be6.size)
  have HB7 := hide ((unhide HB5).trans (hX59.mono (unhide HB5).size))
  obtain ⟨k1, k2, k3, k4⟩ := unhide HYX
  obtain ⟨e0, e1, e2, e3, e4, e5, e6, e7, e8⟩ := cells9 gY
  obtain ⟨b0, b1, b2, b3, b4, b5, b6, b7, b8⟩ := cells9 ((hX59.block _ (lt_of_heap k1)).trans k1)
  have HK := hide (show Calls Tryd.prog 22 #[.agg #[I y.op, S y.path, S y.dst, I y.fd, I y.fl, I y.mo, I y.n, I y.m, .slice da y.data.length dk], .agg #[I y.op, S y.path, S y.dst, I y.fd, I y.fl, I y.mo, I y.n, I y.m, .slice ea y.data.length ek]] Y9 _ from keep_same y da _ dk rfl ea _ ek rfl Y9 ((k2.below hX59).mono hX59.size) ((eby.below hX69).mono hX69.size))
  have HY9 := hide (⟨(k3.below hX59).mono hX59.size, (k4.below hX59).mono hX59.size⟩ : _ ∧ _)
  clear HB5 HD HYX be6 hBV g6 hs6 gY grY hX69 hX59 k1 k2 k3 k4 eby
  go_wp2_with fail
  refine (unhide HK).mono ?_
  rintro e W8 ⟨rfl, be8⟩
  have HB8 := hide ((unhide HB7).trans (be8.mono (unhide HB7).size))
  have HI := hide (intact_any a2 l n c2 g (n + 80) (unhide HN).symm rfl (by have := unhide HLL; have := unhide HN; omega) W8 (((unhide HY9).1.below be8).mono be8.size) (((unhide HY9).2.below be8).mono be8.size))
  clear HB7 HK HY9 be8 e0 e1 e2 e3 e4 e5 e6 e7 e8 b0 b1 b2 b3 b4 b5 b6 b7 b8 y1 y2 y3 y4 y5 y6 y7 y8 y9 s1 s2 s3 s4 s5 s6 s7 s8 s9 f1 f2 f3 f4 f5 f6 f7 f8 f9 hV6
  go_wp2_with fail
  refine (unhide HI).mono ?_
  rintro e W9 ⟨rfl, be9⟩
  have HB9 := hide ((unhide HB8).trans (be9.mono (unhide HB8).size))
  clear be9 HB8 HI
  go_wp2_with fail
  have L1 := unhide HL _ (unhide HB9)
  refine (known_any _ L1.on L1.pos L1.tab).mono ?_
  rintro e W10 ⟨rfl, be10⟩
  have HB10 := hide ((unhide HB9).trans (be10.mono (unhide HB9).size))
  clear be10 HB9
  go_wp2_with fail
  go_ret
  exact ⟨rfl, unhide HB10⟩
end Go.Proofs.YtnkkfomekdipiaaDoor.Cl
