/-
  The document's own Decode.
-/
import Derived.Test.YtcopjhidijhlaaaSETx
import Derived.Test.YtcopjhidijhlaaaEEnc
import Derived.BigRegion
namespace Go.Proofs.Ytcopjhidijhlaaa.Cl
open Go.RowKit
attribute [local go_sem ↓] Go.wp_at_zero Go.wp_at_succ

/-- A text as bytes of its own. -/
theorem conv_str (l : List UInt8) (hl : l.length ≤ 140737488355328) (W : World) : ∃ a n c W', (convert 9 22 (S l)).run Try.prog W = .ok (.slice a n c) W' ∧ Bw W' W.heap.size (.slice a n c) l ∧ Below W.heap.size W W' ∧ W'.heap.size = W.heap.size + 1 := by
  have hsz : (bs l).size = l.length := by simp [ByteArray.size]
  have h := Lib.run_convert_string_bytes (P := Try.prog) W 9 22 5 (bs l) Try.underlying9 Try.underlying22 Try.underlying5
  rw [hsz] at h
  have hge := grownCap_ge W l.length 0 5
  have hmx : (281474976710656 : Nat) ≤ maxLen := by decide
  have hcm : grownCap W l.length 0 5 ≤ maxLen := grownCap_le_maxLen W l.length 0 5 (by omega)
  have hsize : (Lib.bytesCells W 5 (bs l)).size = grownCap W l.length 0 5 := by
    simp [Lib.bytesCells, hsz]
    omega
  refine ⟨_, _, _, _, h, .inr ⟨W.heap.size, _, _, _, rfl, Nat.le_refl _, Lib.bytesWorld_at_new W 5 (bs l), .inr (Nat.le_refl _), hge, hcm, hsize, ?_⟩, ⟨rfl, rfl, rfl, by rw [Lib.bytesWorld_size]; omega, fun k hk => Lib.bytesWorld_at_old W 5 (bs l) k hk⟩, Lib.bytesWorld_size _ _ _⟩
  have e : (Lib.bytesCells W 5 (bs l)).toList = bc l ++ List.replicate (grownCap W l.length 0 5 - l.length) (.int .u8 0) := by
    simp [Lib.bytesCells, hsz, Lib.byteCells]
  rw [e, List.take_left' (bc_len l)]
theorem rN_cut {s : Nat} {q : Rs} (h : (rN s q).2 = false) : q.2 = false := by
  unfold rN ctt at h
  simp only at h
  split at h
  · cases h
  · exact h
theorem rT_cutf {q : Rs} (h : (rT q).2 = false) : (rN 2 q).2 = false ∧ q.2 = false := ⟨rN_cut h, rN_cut (rN_cut h)⟩
/-- What lies while the document reads a call: the answer's cells (h), its reader (h + 1), the call (h + 1 + 1). -/
structure Ed (w W : World) (h : Nat) (a : Option Addr) (cap : Nat) (b : List UInt8) (x : Cc) (d : Value) (q : Rs) : Prop where
  be : Below h w W
  rs : W.heap[h]? = some (.cells (cc0.cs (.slice none 0 0)) 27)
  rd : ∃ p, Er W h (h + 1) a cap b p q
  c : W.heap[h + 1 + 1]? = some (.cells (x.cs d) 27)
/-- The reader goes on, and a cell of the call is stored. -/
theorem Ed.next {w W W' : World} {h : Nat} {a : Option Addr} {cap : Nat} {b : List UInt8} {x : Cc} {d : Value} {q q' : Rs} {p : Nat} (D : Ed w W h a cap b x d q) (E : Er W' h (h + 1) a cap b p q') (G : Gr (h + 1) W W') (i : Nat) (v : Value) (x' : Cc) (d' : Value) (hx : (x.cs d).setIfInBounds i v = x'.cs d') (hi : i < 9) :
    ∃ X, W'.setCell ⟨h + 1 + 1, i, none⟩ v = X ∧ (∃ y, W'.cell? ⟨h + 1 + 1, i, none⟩ = some y) ∧ W'.frozen? ⟨h + 1 + 1, i, none⟩ = false ∧ Ed w X h a cap b x' d' q' := by
  have hle : h ≤ W.heap.size := Nat.le_of_lt (lt_of_heap D.rs)
  have c' := G.keep D.c (by omega)
  refine ⟨_, rfl, ?_, frozen_of c' i, ⟨(D.be.trans (G.below (by omega) hle)).setCell (p := ⟨h + 1 + 1, i, none⟩) (by show h ≤ h + 1 + 1; omega) _, ?_, ⟨p, ?_⟩, ?_⟩⟩
  · rw [cell_of c']
    exact ⟨_, Array.getElem?_eq_getElem (by simpa using hi)⟩
  · exact (Below.heap_setCell _ _ _ _ (by simp; omega)).trans (G.keep D.rs (by omega))
  · exact ⟨(Below.heap_setCell _ _ _ _ (by simp)).trans E.h, E.by'.below ((Gr.set (h + 1 + 1) i W' v).below (by omega) (by have := G.size; omega)), E.hB, E.hc, E.hm, E.hn, E.hp, E.hq⟩
  · rw [heap_set c', hx]
theorem Ed.ok {w W : World} {h : Nat} {a : Option Addr} {cap : Nat} {b : List UInt8} {x : Cc} {d : Value} {q : Rs} (D : Ed w W h a cap b x d q) : W.cell? ⟨h + 1, 2, none⟩ = some (.bool (!q.2)) := by
  obtain ⟨p, E⟩ := D.rd
  rw [cell_of E.h]
  rfl
theorem dec_key (b t1 t2 t8 : List UInt8) (op n3 n4 n5 n6 n7 : Int) (h : (q9 b).2 = false) (h0 : (rN 1 (b, false)).2 = false → op = vN 1 (b, false))
    (h1 : (rT (rN 1 (b, false))).2 = false → t1 = vT (rN 1 (b, false))) (h2 : (q3 b).2 = false → t2 = vT (rT (rN 1 (b, false))))
    (h3 : (qn b 1).2 = false → n3 = sx (vN 4 (qn b 0))) (h4 : (qn b 2).2 = false → n4 = sx (vN 4 (qn b 1))) (h5 : (qn b 3).2 = false → n5 = sx (vN 4 (qn b 2))) (h6 : (qn b 4).2 = false → n6 = sx (vN 4 (qn b 3))) (h7 : (qn b 5).2 = false → n7 = sx (vN 4 (qn b 4))) (h8 : (q9 b).2 = false → t8 = vT (qn b 5)) :
    (⟨op, t1, t2, n3, n4, n5, n6, n7, t8⟩ : Cc) = dcc b := by
  have k5 : (qn b 5).2 = false := (rT_cutf h).2
  have k4 : (qn b 4).2 = false := rN_cut k5
  have k3 : (qn b 3).2 = false := rN_cut k4
  have k2 : (qn b 2).2 = false := rN_cut k3
  have k1 : (qn b 1).2 = false := rN_cut k2
  have k0 : (qn b 0).2 = false := rN_cut k1
  have j2 : (rT (rN 1 (b, false))).2 = false := (rT_cutf k0).2
  have j1 : (rN 1 (b, false)).2 = false := (rT_cutf j2).2
  rw [h0 j1, h1 j2, h2 k0, h3 k1, h4 k2, h5 k3, h6 k4, h7 k5, h8 h]
  rfl
set_option maxRecDepth 100000 in
set_option maxHeartbeats 4000000 in
theorem edec_any (b : List UInt8) (a : Option Addr) (n cap : Nat) (hn : n = b.length) (hc : b.length ≤ cap) (hm : cap ≤ maxLen) (hnn : a = none → cap = 0) (w : World) (hb : By w w.heap.size a b) :
    Calls Try.prog 26 #[.slice a n cap] w fun e w' => ((dwhy b ≠ 0 ∧ e = .returned (.tuple #[.agg Z0, I 0, I (dwhy b)])) ∨ (dwhy b = 0 ∧ ∃ v, e = .returned (.tuple #[.agg ((dcc b).cs v), I ((b.length - (q9 b).1.length : Nat) : Int), I 0]) ∧ Bw w' w.heap.size v (dcc b).data)) ∧ Below w.heap.size w w' := by
  subst hn
  obtain ⟨V, hV, hs, g0, g1, g2, hB⟩ := alloc3 w (.cells Z0 27) (.cells #[.slice a b.length cap, I 0, .bool true] 72) (.cells Z0 27)
  have D0 : Ed w V w.heap.size a cap b cc0 (.slice none 0 0) (b, false) := ⟨hB, g0, ⟨0, g1, hb.below hB, by omega, hc, hm, hnn, Nat.zero_le _, fun _ => rfl⟩, g2⟩
  obtain ⟨p0, E0⟩ := D0.rd
  have HD := hide D0
  have HT := hide (etake_any w.heap.size (w.heap.size + 1) a cap b p0 (b, false) 1 (by omega) V E0)
  have HV := hide hV
  clear D0 g0 g1 g2 hB hb E0 hs hV
  go_enter Try.func26, Try.ntmps26
  go_wp2_with fail
  have hV := unhide HV
  subst hV
  refine (unhide HT).mono ?_
  rintro e W1 ⟨a1, c1, n1, l1, p1, rfl, hn1, -, hby1, hl1, E1, G1⟩
  have HLE := hide (⟨hc, hm, hnn⟩ : _ ∧ _ ∧ _)
  clear HT hc hm hnn
  generalize ((w.alloc _).alloc _).alloc _ = V at *
  generalize hh : w.heap.size = h at *
  obtain ⟨W2, op, k2, HD2, c4, hst⟩ : ∃ (W2 : World) (op : Int), True ∧ Hid (Ed w W2 h a cap b ⟨op, [], [], 0, 0, 0, 0, 0, []⟩ (.slice none 0 0) (rN 1 (b, false)) ∧ ((rN 1 (b, false)).2 = false → op = vN 1 (b, false))) ∧ W1.cell? ⟨h + 1, 2, none⟩ = some (.bool (!(rN 1 (b, false)).2)) ∧ (((rN 1 (b, false)).2 = true ∧ W2 = W1) ∨ ((rN 1 (b, false)).2 = false ∧ ∃ g off x, a1 = some ⟨g, off, none⟩ ∧ n1 = 1 ∧ W1.cell? ⟨g, off, none⟩ = some (.int .u8 (x : Nat)) ∧ x ≤ 255 ∧ op = (x : Int) ∧ (∃ y, W1.cell? ⟨h + 1 + 1, 0, none⟩ = some y) ∧ W1.frozen? ⟨h + 1 + 1, 0, none⟩ = false ∧ W1.setCell ⟨h + 1 + 1, 0, none⟩ (I op) = W2)) := by
    have hcell : W1.cell? ⟨h + 1, 2, none⟩ = some (.bool (!(rN 1 (b, false)).2)) := by rw [cell_of E1.h]; rfl
    have D := unhide HD
    have hle : h ≤ V.heap.size := Nat.le_of_lt (lt_of_heap D.rs)
    have D1 : Ed w W1 h a cap b cc0 (.slice none 0 0) (rN 1 (b, false)) := ⟨D.be.trans (G1.below (by omega) hle), G1.keep D.rs (by omega), ⟨p1, E1⟩, G1.keep D.c (by omega)⟩
    cases hq : (rN 1 (b, false)).2 with
    | true =>
      refine ⟨W1, 0, trivial, hide ⟨D1, fun h => by cases h⟩, ?_, .inl ⟨rfl, rfl⟩⟩
      rw [hcell, hq]
    | false =>
      obtain ⟨e1, e2⟩ := hl1 hq
      rw [e2] at hn1
      match l1, e2, e1, hby1 with
      | [x0], _, e1, hby1 =>
        obtain ⟨g, off, h1, -, d0⟩ := hby1 0 x0 rfl
        obtain ⟨X, h2, h3, h4, h5⟩ := D.next E1 G1 0 (I (x0.toNat : Nat)) ⟨(x0.toNat : Nat), [], [], 0, 0, 0, 0, 0, []⟩ (.slice none 0 0) rfl (by omega)
        have hx0 := x0.toNat_lt
        refine ⟨X, (x0.toNat : Nat), trivial, hide ⟨h5, fun _ => ?_⟩, ?_, .inr ⟨rfl, g, off, x0.toNat, h1, hn1, d0, by omega, rfl, h3, h4, h2⟩⟩
        · unfold vN
          rw [← e1]
          simp [nat]
        · rw [hcell, hq]
  clear k2 HD E1 G1 hby1 hl1
  clear hn1
  generalize hq1 : (rN 1 (b, false)) = q1 at *
  replace hq1 := hide hq1
  obtain ⟨kk, hkk⟩ : ∃ kk, (!q1.2) = kk := ⟨_, rfl⟩
  rw [hkk] at c4
  go_upto_if 18 with fail
  go_cut [] from 19 to 23 (fun wc => wc = W2)
  case first =>
    rcases hst with ⟨hcut, hW⟩ | ⟨hcut, g, off, x, ha1, hn1', hx, hx2, hop, ⟨y, hy⟩, hfz, hset⟩
    · rw [hcut] at hkk
      simp only [Bool.not_true] at hkk
      subst hW hkk
      go_wp2_with fail
      go_meet
      case rel => rfl
    · rw [hcut] at hkk
      simp only [Bool.not_false] at hkk
      subst ha1 hn1' hop hkk
      go_wp2_with fail
      go_meet
      case rel => rfl
  case rest =>
  subst hcut
  clear hst c4 hkk
  obtain ⟨D2, hop⟩ := unhide HD2
  obtain ⟨p2, E2⟩ := D2.rd
  have HT := hide (ertext_any h (h + 1) a cap b p2 q1 _ E2 (Nat.le_of_lt (lt_of_heap D2.rs)))
  replace hop := hide hop
  replace D2 := hide D2
  clear E2 HD2
  go_wp2_with fail
  refine (unhide HT).mono ?_
  rintro e W3 ⟨t1, p3, rfl, -, ht1, E3, G3⟩
  obtain ⟨X3, hX3, ⟨y3, hy3⟩, hf3, D3⟩ := (unhide D2).next E3 G3 1 (S t1) ⟨op, t1, [], 0, 0, 0, 0, 0, []⟩ (.slice none 0 0) rfl (by omega)
  obtain ⟨p4, E4⟩ := D3.rd
  have HT3 := hide (ertext_any h (h + 1) a cap b p4 (rT q1) _ E4 (Nat.le_of_lt (lt_of_heap D3.rs)))
  replace ht1 := hide ht1
  replace D3 := hide D3
  clear HT D2 E3 G3 E4
  go_wp2_with fail
  refine (unhide HT3).mono ?_
  rintro e W5 ⟨t2, p5, rfl, -, ht2, E5, G5⟩
  obtain ⟨X5, hX5, ⟨y5, hy5⟩, hf5, D5⟩ := (unhide D3).next E5 G5 2 (S t2) ⟨op, t1, t2, 0, 0, 0, 0, 0, []⟩ (.slice none 0 0) rfl (by omega)
  obtain ⟨p6, E6⟩ := D5.rd
  have HT5 := hide (erfour_any h (h + 1) a cap b p6 (rT (rT q1)) _ E6)
  replace ht2 := hide ht2
  replace D5 := hide D5
  clear HT3 D3 E5 G5 E6 hX3 hy3 hf3
  go_wp2_with fail
  refine (unhide HT5).mono ?_
  rintro e W7 ⟨n3, p7, rfl, ht3, E7, G7⟩
  obtain ⟨X7, hX7, ⟨y7, hy7⟩, hf7, D7⟩ := (unhide D5).next E7 G7 3 (I n3) ⟨op, t1, t2, n3, 0, 0, 0, 0, []⟩ (.slice none 0 0) rfl (by omega)
  obtain ⟨p8, E8⟩ := D7.rd
  have HT7 := hide (erfour_any h (h + 1) a cap b p8 (rN 4 (rT (rT q1))) _ E8)
  replace ht3 := hide ht3
  replace D7 := hide D7
  clear HT5 D5 E7 G7 E8 hX5 hy5 hf5
  go_wp2_with fail
  refine (unhide HT7).mono ?_
  rintro e W9 ⟨n4, p9, rfl, ht4, E9, G9⟩
  obtain ⟨X9, hX9, ⟨y9, hy9⟩, hf9, D9⟩ := (unhide D7).next E9 G9 4 (I n4) ⟨op, t1, t2, n3, n4, 0, 0, 0, []⟩ (.slice none 0 0) rfl (by omega)
  obtain ⟨p10, E10⟩ := D9.rd
  have HT9 := hide (erfour_any h (h + 1) a cap b p10 (rN 4 (rN 4 (rT (rT q1)))) _ E10)
  replace ht4 := hide ht4
  replace D9 := hide D9
  clear HT7 D7 E9 G9 E10 hX7 hy7 hf7
  go_wp2_with fail
  refine (unhide HT9).mono ?_
  rintro e W11 ⟨n5, p11, rfl, ht5, E11, G11⟩
  obtain ⟨X11, hX11, ⟨y11, hy11⟩, hf11, D11⟩ := (unhide D9).next E11 G11 5 (I n5) ⟨op, t1, t2, n3, n4, n5, 0, 0, []⟩ (.slice none 0 0) rfl (by omega)
  obtain ⟨p12, E12⟩ := D11.rd
  have HT11 := hide (erfour_any h (h + 1) a cap b p12 (rN 4 (rN 4 (rN 4 (rT (rT q1))))) _ E12)
  replace ht5 := hide ht5
  replace D11 := hide D11
  clear HT9 D9 E11 G11 E12 hX9 hy9 hf9
  go_wp2_with fail
  refine (unhide HT11).mono ?_
  rintro e W13 ⟨n6, p13, rfl, ht6, E13, G13⟩
  obtain ⟨X13, hX13, ⟨y13, hy13⟩, hf13, D13⟩ := (unhide D11).next E13 G13 6 (I n6) ⟨op, t1, t2, n3, n4, n5, n6, 0, []⟩ (.slice none 0 0) rfl (by omega)
  obtain ⟨p14, E14⟩ := D13.rd
  have HT13 := hide (erfour_any h (h + 1) a cap b p14 (rN 4 (rN 4 (rN 4 (rN 4 (rT (rT q1)))))) _ E14)
  replace ht6 := hide ht6
  replace D13 := hide D13
  clear HT11 D11 E13 G13 E14 hX11 hy11 hf11
  go_wp2_with fail
  refine (unhide HT13).mono ?_
  rintro e W15 ⟨n7, p15, rfl, ht7, E15, G15⟩
  obtain ⟨X15, hX15, ⟨y15, hy15⟩, hf15, D15⟩ := (unhide D13).next E15 G15 7 (I n7) ⟨op, t1, t2, n3, n4, n5, n6, n7, []⟩ (.slice none 0 0) rfl (by omega)
  obtain ⟨p16, E16⟩ := D15.rd
  have HT15 := hide (ertext_any h (h + 1) a cap b p16 (rN 4 (rN 4 (rN 4 (rN 4 (rN 4 (rT (rT q1))))))) _ E16 (Nat.le_of_lt (lt_of_heap D15.rs)))
  replace ht7 := hide ht7
  replace D15 := hide D15
  clear HT13 D13 E15 G15 E16 hX13 hy13 hf13
  go_wp2_with fail
  refine (unhide HT15).mono ?_
  rintro e W17 ⟨t8, p17, rfl, hl8, ht8, E17, G17⟩
  obtain ⟨da, dn, dk, W18, hconv, hrow, hB18, -⟩ := conv_str t8 (by omega) W17
  have hq1' := unhide hq1
  subst hq1'
  have hkey := hide (fun hc => dec_key b t1 t2 t8 op n3 n4 n5 n6 n7 hc (unhide hop) (unhide ht1) (unhide ht2) (unhide ht3) (unhide ht4) (unhide ht5) (unhide ht6) (unhide ht7) ht8)
  have hQ : rT (rN 4 (rN 4 (rN 4 (rN 4 (rN 4 (rT (rT (rN 1 (b, false))))))))) = q9 b := rfl
  rw [hQ] at E17
  have hlen := hrow.len
  obtain ⟨X19, hX19, ⟨y19, hy19⟩, hf19, D19⟩ := (unhide D15).next (E17.keep hB18) (G17.trans (Gr.below' hB18)) 8 (.slice da dn dk) ⟨op, t1, t2, n3, n4, n5, n6, n7, t8⟩ (.slice da dn dk) rfl (by omega)
  have hle17 : h ≤ W17.heap.size := by
    have h1 := lt_of_heap (unhide D15).rs
    have h2 := G17.size
    omega
  have c18 : W18.heap[h + 1 + 1]? = _ := (G17.trans (Gr.below' hB18)).keep (unhide D15).c (by omega)
  have r19 : Bw X19 h (.slice da dn dk) t8 := by
    rw [← hX19]
    exact (hrow.base hle17).set c18 (by decide) _
  have hok := D19.ok
  replace D19 := hide D19
  replace r19 := hide r19
  replace hlen := hide hlen
  clear hop ht1 ht2 ht3 ht4 ht5 ht6 ht7 ht8 HT15 D15 E17 G17 hX15 hy15 hf15 hrow hB18 c18 hle17 hQ hl8 hq1 HLE
  obtain ⟨qq, hqq⟩ : ∃ qq, (q9 b).2 = qq := ⟨_, rfl⟩
  rw [hqq] at hok
  have HQQ := hide hqq
  clear hqq
  cases qq with
  | true =>
    simp only [Bool.not_true] at hok
    have D := unhide D19
    obtain ⟨Y1, Y2, Y3, Y4, Y5, Y6, Y7, Y8, Y9, ⟨z1, z2, z3, z4, z5, z6, z7, z8, z9⟩, ⟨s1, s2, s3, s4, s5, s6, s7, s8, s9⟩, ⟨f1, f2, f3, f4, f5, f6, f7, f8, f9⟩, gX, grX⟩ := store9 D.rs (I 0) (S []) (S []) (I 0) (I 0) (I 0) (I 0) (I 0) (.slice none 0 0)
    have HBX := hide (D.be.trans (grX.below (Nat.le_refl _) (Nat.le_of_lt (lt_of_heap D.rs))))
    have HGX := hide gX
    clear D gX grX D19
    go_wp2_with fail
    have hg := unhide HGX
    have q0 : Y9.cell? ⟨h, 0, none⟩ = some (I 0) := by rw [cell_of hg]; rfl
    have q1 : Y9.cell? ⟨h, 1, none⟩ = some (S []) := by rw [cell_of hg]; rfl
    have q2 : Y9.cell? ⟨h, 2, none⟩ = some (S []) := by rw [cell_of hg]; rfl
    have q3 : Y9.cell? ⟨h, 3, none⟩ = some (I 0) := by rw [cell_of hg]; rfl
    have q4 : Y9.cell? ⟨h, 4, none⟩ = some (I 0) := by rw [cell_of hg]; rfl
    have q5 : Y9.cell? ⟨h, 5, none⟩ = some (I 0) := by rw [cell_of hg]; rfl
    have q6 : Y9.cell? ⟨h, 6, none⟩ = some (I 0) := by rw [cell_of hg]; rfl
    have q7 : Y9.cell? ⟨h, 7, none⟩ = some (I 0) := by rw [cell_of hg]; rfl
    have q8 : Y9.cell? ⟨h, 8, none⟩ = some (.slice none 0 0) := by rw [cell_of hg]; rfl
    refine bodyPost_ret (v := .tuple #[.agg Z0, I 0, I 10]) (by simp [results, Try.results26, go_sem, q0, q1, q2, q3, q4, q5, q6, q7, q8]) rfl ?_
    have hwhy : dwhy b = 10 := by unfold dwhy; rw [if_pos (unhide HQQ)]
    rw [hh]
    exact ⟨.inl ⟨by rw [hwhy]; decide, by rw [hwhy]⟩, unhide HBX⟩
  | false =>
    simp only [Bool.not_false] at hok
    have hx := unhide hkey (unhide HQQ)
    have hwhy : dwhy b = (dcc b).right := by unfold dwhy; rw [unhide HQQ]; simp
    have hdat : (dcc b).data = t8 := by rw [← hx]
    have D := unhide D19
    rw [hx] at D
    have hR := eright_any (dcc b) da dn dk (by rw [hdat]; exact unhide hlen) X19
    obtain ⟨e0, e1, e2, e3, e4, e5, e6, e7, e8⟩ := cs9 D.c
    have HR := hide hR
    have HD := hide D
    have HX := hide (⟨hwhy, hdat⟩ : _ ∧ _)
    clear hkey hx hwhy hdat D hR D19
    generalize hxe : dcc b = x at *
    replace hxe := hide hxe
    obtain ⟨why, hwy⟩ : ∃ why, x.right = why := ⟨_, rfl⟩
    rw [hwy] at HR
    replace hwy := hide hwy
    go_wp2_with fail
    refine (unhide HR).mono ?_
    rintro e X20 ⟨rfl, hB20⟩
    have D : Ed w X20 h a cap b x (.slice da dn dk) (q9 b) := by
      have D := unhide HD
      obtain ⟨p, E⟩ := D.rd
      exact ⟨D.be.trans (hB20.mono (Nat.le_of_lt (lt_of_heap D.rs))), (hB20.block _ (lt_of_heap D.rs)).trans D.rs, ⟨p, E.keep hB20⟩, (hB20.block _ (lt_of_heap D.c)).trans D.c⟩
    have HR20 := hide ((unhide r19).below hB20)
    clear hB20 HR HD r19 e0 e1 e2 e3 e4 e5 e6 e7 e8 hok hX19 hy19 hf19 hconv
    by_cases hz : why = 0
    · subst hz
      obtain ⟨p, E⟩ := D.rd
      have hat : X20.drew.cell? ⟨h + 1, 1, none⟩ = some (I (p : Nat)) := by show X20.cell? _ = _; rw [cell_of E.h]; rfl
      have hpe : p = b.length - (q9 b).1.length := by
        have h1 := E.hq (unhide HQQ)
        have h2 := E.hp
        rw [h1, List.length_drop]
        omega
      have rs : X20.drew.heap[h]? = _ := D.rs
      have dc : X20.drew.heap[h + 1 + 1]? = _ := D.c
      obtain ⟨e0, e1, e2, e3, e4, e5, e6, e7, e8⟩ := cs9 dc
      obtain ⟨Y1, Y2, Y3, Y4, Y5, Y6, Y7, Y8, Y9, ⟨z1, z2, z3, z4, z5, z6, z7, z8, z9⟩, ⟨s1, s2, s3, s4, s5, s6, s7, s8, s9⟩, ⟨f1, f2, f3, f4, f5, f6, f7, f8, f9⟩, gX, grX⟩ := store9 rs (I x.op) (S x.path) (S x.dst) (I x.fd) (I x.fl) (I x.mo) (I x.n) (I x.m) (.slice da dn dk)
      have hat9 : Y9.cell? ⟨h + 1, 1, none⟩ = some (I (p : Nat)) := by
        have h1 : X20.drew.heap[h + 1]? = _ := E.h
        rw [cell_of (grX.keep h1 (by omega))]
        rfl
      have HBX := hide ((below_drew D.be).trans (grX.below (Nat.le_refl _) (Nat.le_of_lt (lt_of_heap rs))))
      have HGX := hide gX
      have HRX : Hid (Bw Y9 h (.slice da dn dk) t8) := hide (by
        obtain hr | ⟨g, c, cur, fz, h1, h2, h3, h4⟩ := unhide HR20
        · exact .inl hr
        · refine .inr ⟨g, c, cur, fz, h1, h2, ?_, h4⟩
          have h5 : X20.drew.heap[g]? = _ := h3
          refine grX.keep h5 ?_
          rintro rfl
          rw [h5] at rs
          simp at rs)
      replace hpe := hide hpe
      clear D E rs dc gX grX HR20
      go_wp2_with fail
      go_region
      all_goals go_wp2_with fail
      all_goals (
        have hg := unhide HGX
        have q0 : Y9.cell? ⟨h, 0, none⟩ = some (I x.op) := by rw [cell_of hg]; rfl
        have q1 : Y9.cell? ⟨h, 1, none⟩ = some (S x.path) := by rw [cell_of hg]; rfl
        have q2 : Y9.cell? ⟨h, 2, none⟩ = some (S x.dst) := by rw [cell_of hg]; rfl
        have q3 : Y9.cell? ⟨h, 3, none⟩ = some (I x.fd) := by rw [cell_of hg]; rfl
        have q4 : Y9.cell? ⟨h, 4, none⟩ = some (I x.fl) := by rw [cell_of hg]; rfl
        have q5 : Y9.cell? ⟨h, 5, none⟩ = some (I x.mo) := by rw [cell_of hg]; rfl
        have q6 : Y9.cell? ⟨h, 6, none⟩ = some (I x.n) := by rw [cell_of hg]; rfl
        have q7 : Y9.cell? ⟨h, 7, none⟩ = some (I x.m) := by rw [cell_of hg]; rfl
        have q8 : Y9.cell? ⟨h, 8, none⟩ = some (.slice da dn dk) := by rw [cell_of hg]; rfl
        refine bodyPost_ret (v := .tuple #[.agg (x.cs (.slice da dn dk)), I (p : Nat), I 0]) (by simp [results, Try.results26, go_sem, q0, q1, q2, q3, q4, q5, q6, q7, q8]) rfl ?_
        have hwhy : dwhy b = 0 := by rw [(unhide HX).1, unhide hwy]
        rw [hh, unhide hxe, (unhide HX).2, ← unhide hpe]
        exact ⟨.inr ⟨hwhy, _, rfl, unhide HRX⟩, unhide HBX⟩)
    · have hz2 : (why != 0) = true := by simpa using hz
      obtain ⟨Y1, Y2, Y3, Y4, Y5, Y6, Y7, Y8, Y9, ⟨z1, z2, z3, z4, z5, z6, z7, z8, z9⟩, ⟨s1, s2, s3, s4, s5, s6, s7, s8, s9⟩, ⟨f1, f2, f3, f4, f5, f6, f7, f8, f9⟩, gX, grX⟩ := store9 D.rs (I 0) (S []) (S []) (I 0) (I 0) (I 0) (I 0) (I 0) (.slice none 0 0)
      have HBX := hide (D.be.trans (grX.below (Nat.le_refl _) (Nat.le_of_lt (lt_of_heap D.rs))))
      have HGX := hide gX
      have HZ := hide hz
      clear D gX grX HR20 hz
      go_wp2_with fail
      have hg := unhide HGX
      have q0 : Y9.cell? ⟨h, 0, none⟩ = some (I 0) := by rw [cell_of hg]; rfl
      have q1 : Y9.cell? ⟨h, 1, none⟩ = some (S []) := by rw [cell_of hg]; rfl
      have q2 : Y9.cell? ⟨h, 2, none⟩ = some (S []) := by rw [cell_of hg]; rfl
      have q3 : Y9.cell? ⟨h, 3, none⟩ = some (I 0) := by rw [cell_of hg]; rfl
      have q4 : Y9.cell? ⟨h, 4, none⟩ = some (I 0) := by rw [cell_of hg]; rfl
      have q5 : Y9.cell? ⟨h, 5, none⟩ = some (I 0) := by rw [cell_of hg]; rfl
      have q6 : Y9.cell? ⟨h, 6, none⟩ = some (I 0) := by rw [cell_of hg]; rfl
      have q7 : Y9.cell? ⟨h, 7, none⟩ = some (I 0) := by rw [cell_of hg]; rfl
      have q8 : Y9.cell? ⟨h, 8, none⟩ = some (.slice none 0 0) := by rw [cell_of hg]; rfl
      refine bodyPost_ret (v := .tuple #[.agg Z0, I 0, I why]) (by simp [results, Try.results26, go_sem, q0, q1, q2, q3, q4, q5, q6, q7, q8]) rfl ?_
      have hwhy : dwhy b = why := by rw [(unhide HX).1, unhide hwy]
      rw [hh]
      exact ⟨.inl ⟨by rw [hwhy]; exact unhide HZ, by rw [hwhy]⟩, unhide HBX⟩
end Go.Proofs.Ytcopjhidijhlaaa.Cl
