/-
  CallBack's walk.
-/
import Derived.Test.YtnkkfomekdipiaaDoorCBackA
namespace Go.Proofs.YtnkkfomekdipiaaDoor.Cl
open Go.RowKit
attribute [local go_sem ↓] Go.wp_at_zero Go.wp_at_succ

set_option maxRecDepth 100000 in
set_option maxHeartbeats 4000000 in
theorem back_walk (x : Cc) (a : Option Addr) (cap : Nat) (am : Option Addr) (more : List UInt8) (cm : Nat) (w : World) (hx : CallAt w x a cap) (hm : By w w.heap.size am more ∧ more.length ≤ cm ∧ cm ≤ maxLen ∧ (am = none → cm = 0)) (hsz : more.length ≤ 140737488351232) (hL : Lai w) :
    Calls Tryd.prog 6 #[.agg (x.cs (.slice a x.data.length cap)), .slice am more.length cm] w fun e w' => e = .returned (.bool true) ∧ Below w.heap.size w w' := by
  have HM := hide hm
  obtain ⟨V, hV, hs, g0, hB⟩ := alloc1 w (.cells (x.cs (.slice a x.data.length cap)) 27)
  have HL := hide (show ∀ W, Below w.heap.size w W → Lai W from fun W g => hL.below g)
  have HX := hide (show ∀ W, Below w.heap.size w W → By W w.heap.size a x.data from fun W g => hx.by'.below g)
  obtain ⟨b0, b1, b2, b3, b4, b5, b6, b7, b8⟩ := cells9 g0
  have hmx : (more.length : Int) ≤ 140737488351232 := by omega
  clear hm hx hL
  by_cases hr : x.right = 0
  · obtain ⟨-, -, l1, l2, l3⟩ := Cc.right_ok hr
    have HE := hide (encode_y x a _ cap rfl hr V ((unhide HX V hB).mono hB.size))
    have Hr := hide hr
    have HB := hide hB
    have HG := hide g0
    have hel : x.enc.length ≤ 20000 := by rw [x.enc_len]; omega
    clear hB g0 hs l1 l2 l3 hr
    go_enter Tryd.func6, Tryd.ntmps6
    go_wp2_with fail
    refine (unhide HE).mono ?_
    rintro e W1 ⟨v1, rfl, r1, be1⟩
    have HB1 := hide ((unhide HB).trans (be1.mono (unhide HB).size))
    have HG1 := hide ((be1.block _ (lt_of_heap (unhide HG))).trans (unhide HG))
    obtain ⟨a1, c1, rfl, by1, -, -⟩ := r1.form
    obtain ⟨E, hE, hsE, gE, hBE⟩ := alloc1 W1 (.cells #[] 5)
    have r0 : Bw E W1.heap.size (.slice (some ⟨W1.heap.size, 0, none⟩) 0 0) [] := .inr ⟨W1.heap.size, 0, #[], (0, 0), rfl, Nat.le_refl _, gE, .inl rfl, Nat.le_refl _, Nat.zero_le _, rfl, rfl⟩
    obtain ⟨v2, W2, hrun1, r2, k2⟩ := r0.app (by omega) 22 a1 x.enc x.enc.length c1 rfl ((by1.below hBE).mono (by omega)) (by simp; omega)
    obtain ⟨a2, n2, c2, rfl⟩ := r2.sl
    have hB12 : Below W1.heap.size W1 W2 := hBE.trans k2.be
    obtain ⟨v3, W3, hrun2, r3, k3⟩ := bwAppW r2 hB12.size 22 am more more.length cm rfl (((unhide HM).1.below ((unhide HB1).trans (hB12.mono (unhide HB1).size))).mono (Nat.le_trans (unhide HB1).size hB12.size)) (by simp; omega)
    have hne : x.enc ++ more ≠ [] := by
      intro h
      have h1 := congrArg List.length h
      have h2 := x.enc_len
      simp at h1
      rw [h1.1] at h2
      simp at h2
      omega
    simp only [List.nil_append] at r3
    obtain ⟨g3, c3, rfl, by3, lc3, cm3, -⟩ := r3.some hne
    have hB13 : Below W1.heap.size W1 W3 := hB12.trans k3.be
    have HB3 := hide ((unhide HB1).trans (hB13.mono (unhide HB1).size))
    have HG3 := hide ((hB13.block _ (lt_of_heap (unhide HG1))).trans (unhide HG1))
    have HD3 := hide (dec_yes x (unhide Hr) more g3 c3 _ rfl W3 by3 lc3 cm3)
    clear r1 be1 HE HB HG by1 r0 r2 k2 r3 k3 hB12 hB13 by3 lc3 cm3 hne gE hBE hsE b0 b1 b2 b3 b4 b5 b6 b7 b8 HB1 HG1 hel hV
    generalize (x.enc ++ more).length = n3 at *
    generalize x.enc.length = ne at *
    go_wp2_with (first | (at_builtin; refine wpList_app rfl _ _ 22 22 rfl 22 rfl _ _ (by rfl) (by rfl) _ _ hrun1 ?_; clear hrun1) | (at_builtin; refine wpList_app rfl _ _ 22 22 rfl 22 rfl _ _ (by rfl) (by rfl) _ _ hrun2 ?_; clear hrun2))
    refine (unhide HD3).mono ?_
    rintro e W4 ⟨⟨da, dk, rfl, dby⟩, be4⟩
    obtain ⟨V4, hV4, hs4, g4, hBV⟩ := alloc1 W4 (.cells Z0 27)
    obtain ⟨X1, X2, X3, X4, X5, X6, X7, X8, X9, ⟨y1, y2, y3, y4, y5, y6, y7, y8, y9⟩, ⟨s1, s2, s3, s4, s5, s6, s7, s8, s9⟩, ⟨f1, f2, f3, f4, f5, f6, f7, f8, f9⟩, gX, grX⟩ := store9 g4 (I x.op) (S x.path) (S x.dst) (I x.fd) (I x.fl) (I x.mo) (I x.n) (I x.m) (.slice da x.data.length dk)
    have hX49 : Below W4.heap.size W4 X9 := hBV.trans (grX.below (Nat.le_refl _) (by omega))
    have hX9 : Below W3.heap.size W3 X9 := be4.trans (hX49.mono be4.size)
    have HB4 := hide ((unhide HB3).trans (hX9.mono (unhide HB3).size))
    obtain ⟨e0, e1, e2, e3, e4, e5, e6, e7, e8⟩ := cells9 gX
    obtain ⟨b0, b1, b2, b3, b4, b5, b6, b7, b8⟩ := cells9 ((hX9.block _ (lt_of_heap (unhide HG3))).trans (unhide HG3))
    have HK := hide (show Calls Tryd.prog 22 #[.agg #[I x.op, S x.path, S x.dst, I x.fd, I x.fl, I x.mo, I x.n, I x.m, .slice a x.data.length cap], .agg #[I x.op, S x.path, S x.dst, I x.fd, I x.fl, I x.mo, I x.n, I x.m, .slice da x.data.length dk]] X9 _ from keep_same x a _ cap rfl da _ dk rfl X9 ((unhide HX _ (unhide HB4)).mono (unhide HB4).size) ((dby.below hX49).mono hX49.size))
    clear HB3 HG3 HD3 be4 hBV g4 hs4 gX grX hX49 hX9 dby
    go_wp2_with fail
    refine (unhide HK).mono ?_
    rintro e W5 ⟨rfl, be5⟩
    have HB5 := hide ((unhide HB4).trans (be5.mono (unhide HB4).size))
    clear be5 HB4 HK e0 e1 e2 e3 e4 e5 e6 e7 e8 b0 b1 b2 b3 b4 b5 b6 b7 b8 y1 y2 y3 y4 y5 y6 y7 y8 y9 s1 s2 s3 s4 s5 s6 s7 s8 s9 f1 f2 f3 f4 f5 f6 f7 f8 f9 hV4 hE
    rcases dec_two more am cm (unhide HM).2.1 (unhide HM).2.2.1 (unhide HM).2.2.2 W5 (((unhide HM).1.below (unhide HB5)).mono (unhide HB5).size) with ⟨hdn, hdc⟩ | ⟨hdr, hdt, hdl, hdc⟩
    · have HD := hide hdc
      have h3 : (dwhy more != 0) = true := by simpa using hdn
      have h4 : (dwhy more == 0) = false := by simpa using hdn
      clear hdc hdn
      generalize dwhy more = why at *
      go_wp2_with fail
      refine (unhide HD).mono ?_
      rintro e W6 ⟨rfl, be6⟩
      obtain ⟨V6, hV6, hs6, g6, hBV⟩ := alloc1 W6 (.cells Z0 27)
      obtain ⟨X1, X2, X3, X4, X5, X6, X7, X8, X9, ⟨y1, y2, y3, y4, y5, y6, y7, y8, y9⟩, ⟨s1, s2, s3, s4, s5, s6, s7, s8, s9⟩, ⟨f1, f2, f3, f4, f5, f6, f7, f8, f9⟩, gX, grX⟩ := store9 g6 (I 0) (.string ⟨#[]⟩) (.string ⟨#[]⟩) (I 0) (I 0) (I 0) (I 0) (I 0) (.slice none 0 0)
      have hX9 : Below W5.heap.size W5 X9 := (be6.trans (hBV.mono be6.size)).trans (grX.below be6.size (Nat.le_trans be6.size (by omega)))
      have HB6 := hide ((unhide HB5).trans (hX9.mono (unhide HB5).size))
      obtain ⟨e0, e1, e2, e3, e4, e5, e6, e7, e8⟩ := cells9 gX
      have HK := hide (show Calls Tryd.prog 22 #[.agg #[I 0, .string ⟨#[]⟩, .string ⟨#[]⟩, I 0, I 0, I 0, I 0, I 0, .slice none 0 0], .agg #[I 0, .string ⟨#[]⟩, .string ⟨#[]⟩, I 0, I 0, I 0, I 0, I 0, .slice none 0 0]] X9 _ from keep_same cc0 none 0 0 rfl none 0 0 rfl X9 (By.nil _ _ _) (By.nil _ _ _))
      clear HB5 be6 hBV g6 hs6 HD gX grX hX9
      go_wp2_with fail
      refine (unhide HK).mono ?_
      rintro e W7 ⟨rfl, be7⟩
      have HB7 := hide ((unhide HB6).trans (be7.mono (unhide HB6).size))
      clear be7 HB6 HK
      go_wp2_with fail
      have L1 := unhide HL _ (unhide HB7)
      refine (known_any _ L1.on L1.pos L1.tab).mono ?_
      rintro e W8 ⟨rfl, be8⟩
      have HB8 := hide ((unhide HB7).trans (be8.mono (unhide HB7).size))
      clear be8 HB7
      go_wp2_with fail
      go_ret
      exact ⟨rfl, unhide HB8⟩
    · have HD := hide hdc
      have HDR := hide (⟨hdr, hdt⟩ : _ ∧ _)
      clear hdc hdr hdt
      generalize dcc more = y at *
      go_wp2_with fail
      refine (unhide HD).mono ?_
      rintro e W6 ⟨⟨ya, yk, rfl, yby⟩, be6⟩
      obtain ⟨V6, hV6, hs6, g6, hBV⟩ := alloc1 W6 (.cells Z0 27)
      obtain ⟨X1, X2, X3, X4, X5, X6, X7, X8, X9, ⟨y1, y2, y3, y4, y5, y6, y7, y8, y9⟩, ⟨s1, s2, s3, s4, s5, s6, s7, s8, s9⟩, ⟨f1, f2, f3, f4, f5, f6, f7, f8, f9⟩, gX, grX⟩ := store9 g6 (I y.op) (S y.path) (S y.dst) (I y.fd) (I y.fl) (I y.mo) (I y.n) (I y.m) (.slice ya y.data.length yk)
      have hX69 : Below W6.heap.size W6 X9 := hBV.trans (grX.below (Nat.le_refl _) (by omega))
      have hX9 : Below W5.heap.size W5 X9 := be6.trans (hX69.mono be6.size)
      have HB6 := hide ((unhide HB5).trans (hX9.mono (unhide HB5).size))
      obtain ⟨e0, e1, e2, e3, e4, e5, e6, e7, e8⟩ := cells9 gX
      have HE7 := hide (show Calls Tryd.prog 9 #[.agg #[I y.op, S y.path, S y.dst, I y.fd, I y.fl, I y.mo, I y.n, I y.m, .slice ya y.data.length yk]] X9 _ from encode_y y ya _ yk rfl (unhide HDR).1 X9 ((yby.below hX69).mono hX69.size))
      clear HB5 be6 hBV g6 hs6 HD gX grX hX9 hX69 yby
      go_wp2_with fail
      refine (unhide HE7).mono ?_
      rintro e W7 ⟨v7, rfl, r7, be7⟩
      have HB7 := hide ((unhide HB6).trans (be7.mono (unhide HB6).size))
      obtain ⟨ga, gc, rfl, by7, -, -⟩ := r7.form
      have HC := hide (show ∀ W', Below W7.heap.size W7 W' → (convert 22 9 (.slice ga y.enc.length gc)).run Tryd.prog W' = .ok (S y.enc) W' ∧ (convert 22 9 (.slice am y.enc.length cm)).run Tryd.prog W' = .ok (S y.enc) W' from fun W' g => ⟨conv_by (by7.below g) y.enc.length gc rfl, by
        have h := conv_by (B := w.heap.size) (((unhide HM).1.below ((unhide HB7).trans (g.mono (unhide HB7).size))).take y.enc.length) y.enc.length cm (by rw [List.length_take]; omega)
        rw [← (unhide HDR).2] at h
        exact h⟩)
      obtain ⟨hc1, hc2⟩ := unhide HC _ (below_drew (Below.refl _ W7))
      have hyl : (y.enc.length : Int) ≤ (more.length : Int) := by omega
      have hyc : (y.enc.length : Int) ≤ (cm : Int) := by have := (unhide HM).2.1; omega
      have hyc2 : y.enc.length ≤ cm := by omega
      have hy0 : (0 : Int) ≤ (y.enc.length : Int) := by omega
      clear r7 be7 HE7 HB6 by7
      generalize y.enc = ye at *
      generalize hyn : ye.length = yn at *
      replace hyn := hide hyn
      go_wp2_with fail
      go_region_held3 (fun W' => (convert 22 9 (.slice ga yn gc)).run Tryd.prog W' = .ok (S ye) W' ∧ (convert 22 9 (.slice am yn cm)).run Tryd.prog W' = .ok (S ye) W') (exact ⟨by assumption, by assumption⟩) (first | (go_at_call 14; refine (known_any _ (unhide HL _ (below_drew (unhide HB7))).on (unhide HL _ (below_drew (unhide HB7))).pos (unhide HL _ (below_drew (unhide HB7))).tab).mono ?_; rintro e W8 ⟨rfl, be8⟩; have HB8 := hide ((below_drew (unhide HB7)).trans (be8.mono (unhide HB7).size)); obtain ⟨q1, q2⟩ := unhide HC _ ((below_drew (Below.refl _ W7)).trans be8); clear be8))
      all_goals go_wp2_with fail
      all_goals go_ret
      all_goals exact ⟨rfl, unhide HB8⟩
  · have HE := hide (encode_n x a _ cap rfl hr V)
    have hr2 : (x.right == 0) = false := by simpa using hr
    have hr3 : (x.right != 0) = true := by simpa using hr
    have HB := hide hB
    have HG := hide g0
    clear hB g0 hs hr
    have HR := hide (show ∀ W, Calls Tryd.prog 10 #[.agg #[I x.op, S x.path, S x.dst, I x.fd, I x.fl, I x.mo, I x.n, I x.m, .slice a x.data.length cap]] W _ from fun W => right_any x a _ cap rfl W)
    generalize x.right = xr at *
    go_enter Tryd.func6, Tryd.ntmps6
    go_wp2_with fail
    refine (unhide HE).mono ?_
    rintro e W1 ⟨rfl, be1⟩
    have HB1 := hide ((unhide HB).trans (be1.mono (unhide HB).size))
    obtain ⟨b0, b1, b2, b3, b4, b5, b6, b7, b8⟩ := cells9 ((be1.block _ (lt_of_heap (unhide HG))).trans (unhide HG))
    clear be1 HE HB HG hV
    go_wp2_with fail
    refine (unhide HR _).mono ?_
    rintro e W5 ⟨rfl, be5⟩
    have HB5 := hide ((unhide HB1).trans (be5.mono (unhide HB1).size))
    clear be5 HB1 HR b0 b1 b2 b3 b4 b5 b6 b7 b8
    rcases dec_two more am cm (unhide HM).2.1 (unhide HM).2.2.1 (unhide HM).2.2.2 W5 (((unhide HM).1.below (unhide HB5)).mono (unhide HB5).size) with ⟨hdn, hdc⟩ | ⟨hdr, hdt, hdl, hdc⟩
    · have HD := hide hdc
      have h3 : (dwhy more != 0) = true := by simpa using hdn
      have h4 : (dwhy more == 0) = false := by simpa using hdn
      clear hdc hdn
      generalize dwhy more = why at *
      go_wp2_with fail
      refine (unhide HD).mono ?_
      rintro e W6 ⟨rfl, be6⟩
      obtain ⟨V6, hV6, hs6, g6, hBV⟩ := alloc1 W6 (.cells Z0 27)
      obtain ⟨X1, X2, X3, X4, X5, X6, X7, X8, X9, ⟨y1, y2, y3, y4, y5, y6, y7, y8, y9⟩, ⟨s1, s2, s3, s4, s5, s6, s7, s8, s9⟩, ⟨f1, f2, f3, f4, f5, f6, f7, f8, f9⟩, gX, grX⟩ := store9 g6 (I 0) (.string ⟨#[]⟩) (.string ⟨#[]⟩) (I 0) (I 0) (I 0) (I 0) (I 0) (.slice none 0 0)
      have hX9 : Below W5.heap.size W5 X9 := (be6.trans (hBV.mono be6.size)).trans (grX.below be6.size (Nat.le_trans be6.size (by omega)))
      have HB6 := hide ((unhide HB5).trans (hX9.mono (unhide HB5).size))
      obtain ⟨e0, e1, e2, e3, e4, e5, e6, e7, e8⟩ := cells9 gX
      have HK := hide (show Calls Tryd.prog 22 #[.agg #[I 0, .string ⟨#[]⟩, .string ⟨#[]⟩, I 0, I 0, I 0, I 0, I 0, .slice none 0 0], .agg #[I 0, .string ⟨#[]⟩, .string ⟨#[]⟩, I 0, I 0, I 0, I 0, I 0, .slice none 0 0]] X9 _ from keep_same cc0 none 0 0 rfl none 0 0 rfl X9 (By.nil _ _ _) (By.nil _ _ _))
      clear HB5 be6 hBV g6 hs6 HD gX grX hX9
      go_wp2_with fail
      refine (unhide HK).mono ?_
      rintro e W7 ⟨rfl, be7⟩
      have HB7 := hide ((unhide HB6).trans (be7.mono (unhide HB6).size))
      clear be7 HB6 HK
      go_wp2_with fail
      have L1 := unhide HL _ (unhide HB7)
      refine (known_any _ L1.on L1.pos L1.tab).mono ?_
      rintro e W8 ⟨rfl, be8⟩
      have HB8 := hide ((unhide HB7).trans (be8.mono (unhide HB7).size))
      clear be8 HB7
      go_wp2_with fail
      go_ret
      exact ⟨rfl, unhide HB8⟩
    · have HD := hide hdc
      have HDR := hide (⟨hdr, hdt⟩ : _ ∧ _)
      clear hdc hdr hdt
      generalize dcc more = y at *
      go_wp2_with fail
      refine (unhide HD).mono ?_
      rintro e W6 ⟨⟨ya, yk, rfl, yby⟩, be6⟩
      obtain ⟨V6, hV6, hs6, g6, hBV⟩ := alloc1 W6 (.cells Z0 27)
      obtain ⟨X1, X2, X3, X4, X5, X6, X7, X8, X9, ⟨y1, y2, y3, y4, y5, y6, y7, y8, y9⟩, ⟨s1, s2, s3, s4, s5, s6, s7, s8, s9⟩, ⟨f1, f2, f3, f4, f5, f6, f7, f8, f9⟩, gX, grX⟩ := store9 g6 (I y.op) (S y.path) (S y.dst) (I y.fd) (I y.fl) (I y.mo) (I y.n) (I y.m) (.slice ya y.data.length yk)
      have hX69 : Below W6.heap.size W6 X9 := hBV.trans (grX.below (Nat.le_refl _) (by omega))
      have hX9 : Below W5.heap.size W5 X9 := be6.trans (hX69.mono be6.size)
      have HB6 := hide ((unhide HB5).trans (hX9.mono (unhide HB5).size))
      obtain ⟨e0, e1, e2, e3, e4, e5, e6, e7, e8⟩ := cells9 gX
      have HE7 := hide (show Calls Tryd.prog 9 #[.agg #[I y.op, S y.path, S y.dst, I y.fd, I y.fl, I y.mo, I y.n, I y.m, .slice ya y.data.length yk]] X9 _ from encode_y y ya _ yk rfl (unhide HDR).1 X9 ((yby.below hX69).mono hX69.size))
      clear HB5 be6 hBV g6 hs6 HD gX grX hX9 hX69 yby
      go_wp2_with fail
      refine (unhide HE7).mono ?_
      rintro e W7 ⟨v7, rfl, r7, be7⟩
      have HB7 := hide ((unhide HB6).trans (be7.mono (unhide HB6).size))
      obtain ⟨ga, gc, rfl, by7, -, -⟩ := r7.form
      have HC := hide (show ∀ W', Below W7.heap.size W7 W' → (convert 22 9 (.slice ga y.enc.length gc)).run Tryd.prog W' = .ok (S y.enc) W' ∧ (convert 22 9 (.slice am y.enc.length cm)).run Tryd.prog W' = .ok (S y.enc) W' from fun W' g => ⟨conv_by (by7.below g) y.enc.length gc rfl, by
        have h := conv_by (B := w.heap.size) (((unhide HM).1.below ((unhide HB7).trans (g.mono (unhide HB7).size))).take y.enc.length) y.enc.length cm (by rw [List.length_take]; omega)
        rw [← (unhide HDR).2] at h
        exact h⟩)
      obtain ⟨hc1, hc2⟩ := unhide HC _ (below_drew (Below.refl _ W7))
      have hyl : (y.enc.length : Int) ≤ (more.length : Int) := by omega
      have hyc : (y.enc.length : Int) ≤ (cm : Int) := by have := (unhide HM).2.1; omega
      have hyc2 : y.enc.length ≤ cm := by omega
      have hy0 : (0 : Int) ≤ (y.enc.length : Int) := by omega
      clear r7 be7 HE7 HB6 by7
      generalize y.enc = ye at *
      generalize hyn : ye.length = yn at *
      replace hyn := hide hyn
      go_wp2_with fail
      go_region_held3 (fun W' => (convert 22 9 (.slice ga yn gc)).run Tryd.prog W' = .ok (S ye) W' ∧ (convert 22 9 (.slice am yn cm)).run Tryd.prog W' = .ok (S ye) W') (exact ⟨by assumption, by assumption⟩) (first | (go_at_call 14; refine (known_any _ (unhide HL _ (below_drew (unhide HB7))).on (unhide HL _ (below_drew (unhide HB7))).pos (unhide HL _ (below_drew (unhide HB7))).tab).mono ?_; rintro e W8 ⟨rfl, be8⟩; have HB8 := hide ((below_drew (unhide HB7)).trans (be8.mono (unhide HB7).size)); obtain ⟨q1, q2⟩ := unhide HC _ ((below_drew (Below.refl _ W7)).trans be8); clear be8))
      all_goals go_wp2_with fail
      all_goals go_ret
      all_goals exact ⟨rfl, unhide HB8⟩
end Go.Proofs.YtnkkfomekdipiaaDoor.Cl
