/-
  The document's own text, four, Encode.
-/
import Derived.Test.YtcopjhidijhlaaaERight
import Derived.Test.YtcopjhidijhlaaaCDec
namespace Go.Proofs.Ytcopjhidijhlaaa.Cl
open Go.RowKit
attribute [local go_sem ↓] Go.wp_at_zero Go.wp_at_succ

set_option maxRecDepth 100000 in
set_option maxHeartbeats 1000000 in
theorem etext_any (B : Nat) (v : Value) (l t : List UInt8) (w : World) (h : Bw w B v l) (hb : B ≤ w.heap.size) (hl : l.length + t.length ≤ 140737488355000) (ht : t.length ≤ 100000) :
    Calls Try.prog 34 #[v, S t] w fun e w' => ∃ v', e = .returned v' ∧ Bw w' B v' (l ++ txt t) ∧ Kp B w w' := by
  obtain ⟨v1, w1, run1, h1, k1⟩ := h.new hb 22 [byt t.length 1, byt t.length 0] 2 rfl #[.int .u8 ((t.length : Int) / 256 % 256), .int .u8 ((t.length : Int) % 256)] (by simp [Lib.byteCells, byt_val]) (by simp; omega)
  obtain ⟨v2, w2, run2, h2, k2⟩ := h1.str (Nat.le_trans hb k1.be.size) 22 t (by simp; omega)
  have HK := hide (⟨h2, k1.trans k2⟩ : _ ∧ _)
  have j1 : (t.length : Int) ≤ 100000 := by omega
  have j0 : (0 : Int) ≤ (t.length : Int) := by omega
  clear h1 k1 h2 k2 hb hl h ht
  go_enter Try.func34, Try.ntmps34
  go_wp2_with (first | (at_builtin; refine wpList_app rfl _ _ 22 22 rfl 22 rfl _ _ (by rfl) (by rfl) _ _ run1 ?_; clear run1) | (at_builtin; refine wpList_app rfl _ _ 22 9 rfl 22 rfl _ _ (by rfl) (by rfl) _ _ run2 ?_; clear run2))
  go_ret
  exact ⟨_, rfl, by simpa [txt, be] using (unhide HK).1, (unhide HK).2⟩
set_option maxRecDepth 100000 in
set_option maxHeartbeats 1000000 in
theorem efour_any (B : Nat) (v : Value) (l : List UInt8) (n : Int) (hn : okN n = true) (w : World) (h : Bw w B v l) (hb : B ≤ w.heap.size) (hl : l.length ≤ 140737488355000) :
    Calls Try.prog 35 #[v, I n] w fun e w' => ∃ v', e = .returned v' ∧ Bw w' B v' (l ++ be 4 n) ∧ Kp B w w' := by
  obtain ⟨n1, n2⟩ := okN_true hn
  obtain ⟨v1, w1, run1, h1, k1⟩ := h.new hb 22 (be 4 n) 4 rfl #[.int .u8 (n % 4294967296 / 16777216), .int .u8 (n % 4294967296 / 65536 % 256), .int .u8 (n % 4294967296 / 256 % 256), .int .u8 (n % 256)] (by
    simp [Lib.byteCells, be, byt_val]; omega) (by simp [be_len]; omega)
  have HK := hide (⟨h1, k1⟩ : _ ∧ _)
  clear h1 k1 hb hl h hn
  go_enter Try.func35, Try.ntmps35
  go_wp2_with (at_builtin; refine wpList_app rfl _ _ 22 22 rfl 22 rfl _ _ (by rfl) (by rfl) _ _ run1 ?_; clear run1)
  go_ret
  exact ⟨_, rfl, (unhide HK).1, (unhide HK).2⟩
set_option maxRecDepth 100000 in
set_option maxHeartbeats 1000000 in
theorem eenc_no (x : Cc) (a : Option Addr) (k cap : Nat) (hk : k = x.data.length) (hr : x.right ≠ 0) (w : World) :
    Calls Try.prog 24 #[.agg (x.cs (.slice a k cap))] w fun e w' => e = .returned (.tuple #[.slice none 0 0, I x.right]) ∧ Below w.heap.size w w' := by
  obtain ⟨V, hV, hs, g0, hB⟩ := alloc1 w (.cells (x.cs (.slice a k cap)) 27)
  obtain ⟨b0, b1, b2, b3, b4, b5, b6, b7, b8⟩ := cs9 g0
  have HB := hide hB
  have hR := eright_any x a k cap hk V
  obtain ⟨r, hrr⟩ : ∃ r, x.right = r := ⟨_, rfl⟩
  rw [hrr] at hR hr ⊢
  have hr2 : (r == 0) = false := by simpa using hr
  have hr3 : (r != 0) = true := by simpa using hr
  have HR := hide hR
  replace hk := hide hk
  clear hB g0 hs hR hr hrr
  go_enter Try.func24, Try.ntmps24
  go_wp2_with fail
  refine (unhide HR).mono ?_
  rintro e W1 ⟨rfl, be1⟩
  have HB1 := hide ((unhide HB).trans (be1.mono (unhide HB).size))
  clear be1 HB HR b0 b1 b2 b3 b4 b5 b6 b7 b8 hV
  go_wp2_with fail
  refine bodyPost_ret (v := .tuple #[.slice none 0 0, I r]) (by simp [results, Try.results24, go_sem]) rfl ?_
  exact ⟨rfl, unhide HB1⟩
/-- What lies while a call is written: the call and the row. -/
structure Ets (w W : World) (h : Nat) (x : Cc) (d v : Value) (l : List UInt8) : Prop where
  be : Below h w W
  c : W.heap[h]? = some (.cells (x.cs d) 27)
  r : Bw W h v l
theorem Ets.step {w W W' : World} {h : Nat} {x : Cc} {d v v' : Value} {l l' : List UInt8} (E : Ets w W h x d v l) (k : Kp h W W') (r : Bw W' h v' l') : Ets w W' h x d v' l' := ⟨E.be.trans k.be, k.keep E.c (by decide), r⟩
theorem Ets.hb {w W : World} {h : Nat} {x : Cc} {d v : Value} {l : List UInt8} (E : Ets w W h x d v l) : h ≤ W.heap.size := Nat.le_of_lt (lt_of_heap E.c)
theorem Ets.drew {w W : World} {h : Nat} {x : Cc} {d v : Value} {l : List UInt8} (E : Ets w W h x d v l) : Ets w W.drew h x d v l := ⟨below_drew E.be, E.c, E.r⟩
set_option maxRecDepth 100000 in
set_option maxHeartbeats 2000000 in
theorem eenc_yes (x : Cc) (a : Option Addr) (k cap : Nat) (hk : k = x.data.length) (hr : x.right = 0) (w : World) (hdat : By w w.heap.size a x.data) :
    Calls Try.prog 24 #[.agg (x.cs (.slice a k cap))] w fun e w' => ∃ v, e = .returned (.tuple #[v, I 0]) ∧ Bw w' w.heap.size v x.enc ∧ Below w.heap.size w w' := by
  obtain ⟨⟨o1, o2⟩, hok, l1, l2, l3⟩ := Cc.right_ok hr
  obtain ⟨V, hV, hs, g0, hB⟩ := alloc1 w (.cells (x.cs (.slice a k cap)) 27)
  obtain ⟨b0, b1, b2, b3, b4, b5, b6, b7, b8⟩ := cs9 g0
  have HR := hide (eright_any x a k cap hk V)
  rw [hr] at HR
  have HV := hide (⟨hB, g0⟩ : _ ∧ _)
  have HD := hide hdat
  have HO := hide (fun k => Cc.okNs_get hok k)
  have HL := hide (⟨l1, l2, l3⟩ : _ ∧ _ ∧ _)
  replace hk := hide hk
  clear hB g0 hs hr hdat hok l1 l2 l3
  go_enter Try.func24, Try.ntmps24
  go_wp2_with fail
  refine (unhide HR).mono ?_
  rintro e W1 ⟨rfl, be1⟩
  have E1 : w.heap.size < V.heap.size := lt_of_heap (unhide HV).2
  have q1 : W1.heap[w.heap.size]? = _ := (be1.block _ E1).trans (unhide HV).2
  have HB1 := hide ((unhide HV).1.trans (be1.mono (unhide HV).1.size))
  have HW1 : w.heap.size ≤ W1.heap.size := Nat.le_of_lt (lt_of_heap q1)
  obtain ⟨E, hE, hsE, gE, hBE⟩ := alloc1 W1 (.cells #[.int .u8 (IntKind.u8.wrap x.op)] 5)
  have r0 : Bw E w.heap.size (.slice (some ⟨W1.heap.size, 0, none⟩) 1 1) (be 1 x.op) := .inr ⟨W1.heap.size, 1, #[.int .u8 (IntKind.u8.wrap x.op)], (0, 0), rfl, HW1, gE, .inl rfl, Nat.le_refl _, by decide, rfl, by
    simp [be, Lib.byteCells, byt_val, IntKind.wrap_u8]⟩
  have HT : Hid (Ets w E.drew w.heap.size x (.slice a k cap) (.slice (some ⟨W1.heap.size, 0, none⟩) 1 1) (be 1 x.op)) := hide ⟨below_drew ((unhide HB1).trans (hBE.mono HW1)), (hBE.block _ (lt_of_heap q1)).trans q1, r0⟩
  rw [← hE] at HT
  have d0 : (W1.alloc (.cells #[.int .u8 (IntKind.u8.wrap x.op)] 5)).cell? ⟨w.heap.size, 0, none⟩ = _ := (cs9 (unhide HT).c).1
  have d1 : (W1.alloc (.cells #[.int .u8 (IntKind.u8.wrap x.op)] 5)).cell? ⟨w.heap.size, 1, none⟩ = _ := (cs9 (unhide HT).c).2.1
  have d2 : (W1.alloc (.cells #[.int .u8 (IntKind.u8.wrap x.op)] 5)).cell? ⟨w.heap.size, 2, none⟩ = _ := (cs9 (unhide HT).c).2.2.1
  obtain ⟨b0, b1, b2, b3, b4, b5, b6, b7, b8⟩ := cs9 q1
  obtain ⟨c0, c1, c2, c3, c4, c5, c6, c7, c8⟩ := cs9 (unhide HT).c
  clear q1 HV HR be1 hV E1 r0 gE hBE hsE HB1 hE
  generalize hh : w.heap.size = h at *
  go_wp2_with fail
  go_region_held3 (fun W' => W'.cell? ⟨h, 0, none⟩ = some (I x.op) ∧ W'.cell? ⟨h, 1, none⟩ = some (S x.path) ∧ W'.cell? ⟨h, 2, none⟩ = some (S x.dst)) (first | exact ⟨by assumption, by assumption, by assumption⟩ | go_keep)
    (first
      | (go_at_call_has 34 (S x.path); refine (etext_any h _ (be 1 x.op) x.path _ (unhide HT).r (unhide HT).hb (by simp [be_len]; have := (unhide HL).1; omega) (by have := (unhide HL).1; omega)).mono ?_; rintro e W2 ⟨v2, rfl, r2, k2⟩; obtain ⟨a2, n2, z2, rfl⟩ := r2.sl; have HT2 := hide ((unhide HT).step k2 r2); clear HT r2 k2; obtain ⟨c0, c1, c2, c3, c4, c5, c6, c7, c8⟩ := cs9 (unhide HT2).c)
      | (go_at_call_has 34 (S x.dst); refine (etext_any h _ _ x.dst _ (unhide HT2).r (unhide HT2).hb (by simp [be_len, txt_len]; have := (unhide HL).1; have := (unhide HL).2.1; omega) (by have := (unhide HL).2.1; omega)).mono ?_; rintro e W3 ⟨v3, rfl, r3, k3⟩; obtain ⟨a3, n3, z3, rfl⟩ := r3.sl; have HT3 : Hid (Ets w W3 h x (.slice a k cap) (.slice a3 n3 z3) x.head) := hide ((unhide HT2).step k3 r3); clear HT2 r3 k3; obtain ⟨c0, c1, c2, c3, c4, c5, c6, c7, c8⟩ := cs9 (unhide HT3).c))
  go_wp2_with fail
  have HO0 := unhide HO 0
  have HO1 := unhide HO 1
  have HO2 := unhide HO 2
  have HO3 := unhide HO 3
  have HO4 := unhide HO 4
  simp only [Cc.num] at HO0 HO1 HO2 HO3 HO4
  have hlen : x.head.length ≤ 10005 := by have := unhide HL; rw [Cc.head_len]; omega
  replace HO0 := hide HO0
  replace HO1 := hide HO1
  replace HO2 := hide HO2
  replace HO3 := hide HO3
  replace HO4 := hide HO4
  have HLEN := hide hlen
  clear hlen HO
  go_region_held3 (fun W' => W'.cell? ⟨h, 3, none⟩ = some (I x.fd) ∧ W'.cell? ⟨h, 4, none⟩ = some (I x.fl) ∧ W'.cell? ⟨h, 5, none⟩ = some (I x.mo) ∧ W'.cell? ⟨h, 6, none⟩ = some (I x.n) ∧ W'.cell? ⟨h, 7, none⟩ = some (I x.m)) (first | exact ⟨by assumption, by assumption, by assumption, by assumption, by assumption⟩ | go_keep)
    (first
      | (go_at_call_has 35 (I x.fd); refine (efour_any h _ x.head x.fd (unhide HO0) _ (unhide HT3).drew.r (unhide HT3).drew.hb (by have := unhide HLEN; omega)).mono ?_; rintro e W4 ⟨v4, rfl, r4, k4⟩; obtain ⟨a4, n4, z4, rfl⟩ := r4.sl; have HT4 := hide ((unhide HT3).drew.step k4 r4); clear HT3 r4 k4; obtain ⟨c0, c1, c2, c3, c4, c5, c6, c7, c8⟩ := cs9 (unhide HT4).c)
      | (go_at_call_has 35 (I x.fl); refine (efour_any h _ _ x.fl (unhide HO1) _ (unhide HT4).r (unhide HT4).hb (by have := unhide HLEN; simp [be_len]; omega)).mono ?_; rintro e W5 ⟨v5, rfl, r5, k5⟩; obtain ⟨a5, n5, z5, rfl⟩ := r5.sl; have HT5 := hide ((unhide HT4).step k5 r5); clear HT4 r5 k5; obtain ⟨c0, c1, c2, c3, c4, c5, c6, c7, c8⟩ := cs9 (unhide HT5).c)
      | (go_at_call_has 35 (I x.mo); refine (efour_any h _ _ x.mo (unhide HO2) _ (unhide HT5).r (unhide HT5).hb (by have := unhide HLEN; simp [be_len]; omega)).mono ?_; rintro e W6 ⟨v6, rfl, r6, k6⟩; obtain ⟨a6, n6, z6, rfl⟩ := r6.sl; have HT6 := hide ((unhide HT5).step k6 r6); clear HT5 r6 k6; obtain ⟨c0, c1, c2, c3, c4, c5, c6, c7, c8⟩ := cs9 (unhide HT6).c)
      | (go_at_call_has 35 (I x.n); refine (efour_any h _ _ x.n (unhide HO3) _ (unhide HT6).r (unhide HT6).hb (by have := unhide HLEN; simp [be_len]; omega)).mono ?_; rintro e W7 ⟨v7, rfl, r7, k7⟩; obtain ⟨a7, n7, z7, rfl⟩ := r7.sl; have HT7 := hide ((unhide HT6).step k7 r7); clear HT6 r7 k7; obtain ⟨c0, c1, c2, c3, c4, c5, c6, c7, c8⟩ := cs9 (unhide HT7).c)
      | (go_at_call_has 35 (I x.m); refine (efour_any h _ _ x.m (unhide HO4) _ (unhide HT7).r (unhide HT7).hb (by have := unhide HLEN; simp [be_len]; omega)).mono ?_; rintro e W8 ⟨v8, rfl, r8, k8⟩; obtain ⟨a8, n8, z8, rfl⟩ := r8.sl; have HT8 := hide ((unhide HT7).step k8 r8); clear HT7 r8 k8; obtain ⟨c0, c1, c2, c3, c4, c5, c6, c7, c8⟩ := cs9 (unhide HT8).c))
  have hk := unhide hk
  have hcv := conv_by (((unhide HD).below (unhide HT8).be)) k cap hk
  have HK := hide hk
  clear hk
  go_wp2_with fail
  refine (etext_any h _ _ x.data _ (unhide HT8).r (unhide HT8).hb (by have := unhide HLEN; have := unhide HL; simp [be_len]; omega) (by have := unhide HL; omega)).mono ?_
  rintro e W9 ⟨v9, rfl, r9, k9⟩
  obtain ⟨a9, n9, z9, rfl⟩ := r9.sl
  have HT9 := hide ((unhide HT8).step k9 r9)
  clear HT8 r9 k9 hcv
  go_wp2_with fail
  refine bodyPost_ret (v := .tuple #[.slice a9 n9 z9, I 0]) (by simp [results, Try.results24, go_sem]) rfl ?_
  refine ⟨_, rfl, ?_, by rw [hh]; exact (unhide HT9).be⟩
  have r10 := (unhide HT9).r
  rw [hh]
  simpa [Cc.enc, Cc.mid, Cc.num, List.append_assoc] using r10
end Go.Proofs.Ytcopjhidijhlaaa.Cl
