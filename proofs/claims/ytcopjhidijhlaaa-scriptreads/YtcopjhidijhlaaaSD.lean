/-
  The contracts of start and first.
-/
import Derived.Test.YtcopjhidijhlaaaSC
namespace Go.Proofs.Ytcopjhidijhlaaa.Cl
open Go.RowKit
attribute [local go_sem ↓] Go.wp_at_zero Go.wp_at_succ

theorem Dt.drew {W : World} {B : Nat} {d : Value} {l : List UInt8} (h : Dt W B d l) : Dt W.drew B d l := h.below ⟨rfl, rfl, rfl, Nat.le_refl _, fun _ _ => rfl⟩
set_option maxRecDepth 100000 in
set_option maxHeartbeats 2000000 in
theorem start_no (b : List UInt8) (a : Option Addr) (n cap : Nat) (hn : n = b.length) (h3 : n < 2) (w : World) :
    Calls Try.prog 45 #[.slice a n cap] w fun e w' => Fo w w' e (it0, n) := by
  obtain ⟨V, hV, hs, g0, hB⟩ := alloc1 w (.cells Z12 29)
  obtain ⟨X1, X2, X3, X4, X5, X6, X7, X8, X9, X10, X11, X12, ⟨y1, y2, y3, y4, y5, y6, y7, y8, y9, y10, y11, y12⟩, ⟨s1, s2, s3, s4, s5, s6, s7, s8, s9, s10, s11, s12⟩, ⟨f1, f2, f3, f4, f5, f6, f7, f8, f9, f10, f11, f12⟩, gX, grX⟩ := store12 g0 (I 0) (I 0) (I 0) (I 0) (.string ⟨#[]⟩) (.string ⟨#[]⟩) (I 0) (I 0) (I 0) (I 0) (I 0) (.slice none 0 0)
  have z0 : X12.cell? ⟨w.heap.size, 0, none⟩ = some (I 0) := by rw [cell_of gX]; rfl
  have z1 : X12.cell? ⟨w.heap.size, 1, none⟩ = some (I 0) := by rw [cell_of gX]; rfl
  have z2 : X12.cell? ⟨w.heap.size, 2, none⟩ = some (I 0) := by rw [cell_of gX]; rfl
  have z3 : X12.cell? ⟨w.heap.size, 3, none⟩ = some (I 0) := by rw [cell_of gX]; rfl
  have z4 : X12.cell? ⟨w.heap.size, 4, none⟩ = some (.string ⟨#[]⟩) := by rw [cell_of gX]; rfl
  have z5 : X12.cell? ⟨w.heap.size, 5, none⟩ = some (.string ⟨#[]⟩) := by rw [cell_of gX]; rfl
  have z6 : X12.cell? ⟨w.heap.size, 6, none⟩ = some (I 0) := by rw [cell_of gX]; rfl
  have z7 : X12.cell? ⟨w.heap.size, 7, none⟩ = some (I 0) := by rw [cell_of gX]; rfl
  have z8 : X12.cell? ⟨w.heap.size, 8, none⟩ = some (I 0) := by rw [cell_of gX]; rfl
  have z9 : X12.cell? ⟨w.heap.size, 9, none⟩ = some (I 0) := by rw [cell_of gX]; rfl
  have z10 : X12.cell? ⟨w.heap.size, 10, none⟩ = some (I 0) := by rw [cell_of gX]; rfl
  have z11 : X12.cell? ⟨w.heap.size, 11, none⟩ = some (.slice none 0 0) := by rw [cell_of gX]; rfl
  have hq : (n : Int) < 2 := by omega
  have HB := hide (hB.trans (grX.below (Nat.le_refl _) (by omega)))
  clear hB g0 hs gX grX hn
  go_enter Try.func45, Try.ntmps45
  go_wp2_with fail
  exact bodyPost_ret (v := .tuple #[.agg Z12, I (n : Nat)]) (by simp [results, Try.results45, go_sem, z0, z1, z2, z3, z4, z5, z6, z7, z8, z9, z10, z11]) rfl (Fo.of (d := .slice none 0 0) rfl (Dt.nil _ _) (unhide HB))
set_option maxRecDepth 100000 in
set_option maxHeartbeats 4000000 in
theorem start_yes (k t : UInt8) (q : List UInt8) (a : Option Addr) (n cap : Nat) (hn : n = q.length + 2) (hc : n ≤ cap) (hm : cap ≤ maxLen) (w : World) (hb : By w w.heap.size a (k :: t :: q)) :
    Calls Try.prog 45 #[.slice a n cap] w fun e w' => Fo w w' e (if dwhy q = 0 then (⟨1, t.toNat, 0, dcc q⟩, 2 + (q.length - (q9 q).1.length)) else (it0, n)) := by
  obtain ⟨V, hV, hs, g0, hB⟩ := alloc1 w (.cells Z12 29)
  obtain ⟨g, off, rfl, hg⟩ := hb.head
  have hbV := hb.below hB
  have q0 : ¬ (n : Int) < 2 := by omega
  have q1 : (1 : Int) < (n : Int) := by omega
  have q2 : (2 : Int) ≤ (n : Int) := by omega
  have q3 : 1 < n := by omega
  have q4 : (2 : Int) ≤ (cap : Int) := by omega
  have q5 : (n : Int) ≤ (cap : Int) := by omega
  have q6 : (cap : Int) ≤ 9223372036854775807 := by unfold maxLen at hm; omega
  by_cases hc2 : cap = 2
  · obtain rfl : q = [] := List.eq_nil_of_length_eq_zero (by omega)
    obtain rfl : n = 2 := by simpa using hn
    subst hc2
    have hwhy : dwhy [] ≠ 0 := by decide +kernel
    have HD := hide (fun aa => (show Calls Try.prog 47 #[.slice (some aa) 0 0] V _ from decode_any [] (some aa) 0 0 rfl (by simp) (by unfold maxLen; omega) (fun e => by cases e) V (By.nil _ _ _)))
    rw [if_neg hwhy]
    clear hn hc hm hb hbV hg
    go_enter Try.func45, Try.ntmps45
    go_wp2_with fail
    refine (unhide HD _).mono ?_
    rintro e W2 ⟨⟨-, rfl⟩ | ⟨h, -⟩, be2⟩
    · clear HD
      obtain ⟨W3, hW3, hs3, g3, hB3⟩ := alloc1 W2 (.cells Z0 27)
      obtain ⟨Y1, Y2, Y3, Y4, Y5, Y6, Y7, Y8, Y9, ⟨p1, p2, p3, p4, p5, p6, p7, p8, p9⟩, ⟨t1, t2, t3, t4, t5, t6, t7, t8, t9⟩, ⟨u1, u2, u3, u4, u5, u6, u7, u8, u9⟩, gY, grY⟩ := store9 g3 (I 0) (.string ⟨#[]⟩) (.string ⟨#[]⟩) (I 0) (I 0) (I 0) (I 0) (I 0) (.slice none 0 0)
      have k0 := grY.keep ((hB3.block _ (lt_of_heap ((be2.block _ (lt_of_heap g0)).trans g0))).trans ((be2.block _ (lt_of_heap g0)).trans g0)) (show w.heap.size ≠ W2.heap.size by have := be2.size; omega)
      obtain ⟨X1, X2, X3, X4, X5, X6, X7, X8, X9, X10, X11, X12, ⟨y1, y2, y3, y4, y5, y6, y7, y8, y9, y10, y11, y12⟩, ⟨s1, s2, s3, s4, s5, s6, s7, s8, s9, s10, s11, s12⟩, ⟨f1, f2, f3, f4, f5, f6, f7, f8, f9, f10, f11, f12⟩, gX, grX⟩ := store12 k0 (I 0) (I 0) (I 0) (I 0) (.string ⟨#[]⟩) (.string ⟨#[]⟩) (I 0) (I 0) (I 0) (I 0) (I 0) (.slice none 0 0)
      have z0 : X12.cell? ⟨w.heap.size, 0, none⟩ = some (I 0) := by rw [cell_of gX]; rfl
      have z1 : X12.cell? ⟨w.heap.size, 1, none⟩ = some (I 0) := by rw [cell_of gX]; rfl
      have z2 : X12.cell? ⟨w.heap.size, 2, none⟩ = some (I 0) := by rw [cell_of gX]; rfl
      have z3 : X12.cell? ⟨w.heap.size, 3, none⟩ = some (I 0) := by rw [cell_of gX]; rfl
      have z4 : X12.cell? ⟨w.heap.size, 4, none⟩ = some (.string ⟨#[]⟩) := by rw [cell_of gX]; rfl
      have z5 : X12.cell? ⟨w.heap.size, 5, none⟩ = some (.string ⟨#[]⟩) := by rw [cell_of gX]; rfl
      have z6 : X12.cell? ⟨w.heap.size, 6, none⟩ = some (I 0) := by rw [cell_of gX]; rfl
      have z7 : X12.cell? ⟨w.heap.size, 7, none⟩ = some (I 0) := by rw [cell_of gX]; rfl
      have z8 : X12.cell? ⟨w.heap.size, 8, none⟩ = some (I 0) := by rw [cell_of gX]; rfl
      have z9 : X12.cell? ⟨w.heap.size, 9, none⟩ = some (I 0) := by rw [cell_of gX]; rfl
      have z10 : X12.cell? ⟨w.heap.size, 10, none⟩ = some (I 0) := by rw [cell_of gX]; rfl
      have z11 : X12.cell? ⟨w.heap.size, 11, none⟩ = some (.slice none 0 0) := by rw [cell_of gX]; rfl
      have HB := hide ((hB.trans (be2.mono (by omega))).trans ((hB3.mono (by have := be2.size; omega)).trans ((grY.below (by have := be2.size; omega) (by have := be2.size; omega)).trans (grX.below (Nat.le_refl _) (by have := be2.size; have := grY.size; omega)))))
      have hw2 : (dwhy [] != 0) = true := by simpa using hwhy
      have hw3 : (dwhy [] == 0) = false := by simpa using hwhy
      clear hwhy k0 gX grX gY grY g3 hB3 hs3 be2
      generalize dwhy [] = y at *
      go_wp2_with fail
      exact bodyPost_ret (v := .tuple #[.agg Z12, I (2 : Nat)]) (by simp [results, Try.results45, go_sem, z0, z1, z2, z3, z4, z5, z6, z7, z8, z9, z10, z11]) rfl (Fo.of (d := .slice none 0 0) rfl (Dt.nil _ _) (by first | exact unhide HB | exact below_drew (unhide HB)))
    · exact absurd h hwhy
  · have hc3 : ¬ cap - 2 = 0 := by omega
    have hby2 : By V V.heap.size (some ⟨g, off + 2, none⟩) q := fun j c hj => by
      obtain ⟨b', o', e1, h2, h3⟩ := hbV (j + 2) c hj
      simp at e1
      obtain ⟨rfl, rfl⟩ := e1
      exact ⟨g, off + 2, rfl, by omega, by rw [Nat.add_assoc, Nat.add_comm 2 j]; exact h3⟩
    have HD := hide (decode_any q (some ⟨g, off + 2, none⟩) (n - 2) (cap - 2) (by omega) (by omega) (by omega) (fun e => by cases e) V hby2)
    have HY := hide hbV
    clear hb hbV hg hby2 hc hm
    replace hn := hide hn
    rcases (show dwhy q ≠ 0 ∨ dwhy q = 0 from by omega) with hwhy | hwhy
    · rw [if_neg hwhy]
      go_enter Try.func45, Try.ntmps45
      go_wp2_with fail
      refine (unhide HD).mono ?_
      rintro e W2 ⟨⟨-, rfl⟩ | ⟨h, -⟩, be2⟩
      · clear HD HY
        obtain ⟨W3, hW3, hs3, g3, hB3⟩ := alloc1 W2 (.cells Z0 27)
        obtain ⟨Y1, Y2, Y3, Y4, Y5, Y6, Y7, Y8, Y9, ⟨p1, p2, p3, p4, p5, p6, p7, p8, p9⟩, ⟨t1, t2, t3, t4, t5, t6, t7, t8, t9⟩, ⟨u1, u2, u3, u4, u5, u6, u7, u8, u9⟩, gY, grY⟩ := store9 g3 (I 0) (.string ⟨#[]⟩) (.string ⟨#[]⟩) (I 0) (I 0) (I 0) (I 0) (I 0) (.slice none 0 0)
        have k0 := grY.keep ((hB3.block _ (lt_of_heap ((be2.block _ (lt_of_heap g0)).trans g0))).trans ((be2.block _ (lt_of_heap g0)).trans g0)) (show w.heap.size ≠ W2.heap.size by have := be2.size; omega)
        obtain ⟨X1, X2, X3, X4, X5, X6, X7, X8, X9, X10, X11, X12, ⟨y1, y2, y3, y4, y5, y6, y7, y8, y9, y10, y11, y12⟩, ⟨s1, s2, s3, s4, s5, s6, s7, s8, s9, s10, s11, s12⟩, ⟨f1, f2, f3, f4, f5, f6, f7, f8, f9, f10, f11, f12⟩, gX, grX⟩ := store12 k0 (I 0) (I 0) (I 0) (I 0) (.string ⟨#[]⟩) (.string ⟨#[]⟩) (I 0) (I 0) (I 0) (I 0) (I 0) (.slice none 0 0)
        have z0 : X12.cell? ⟨w.heap.size, 0, none⟩ = some (I 0) := by rw [cell_of gX]; rfl
        have z1 : X12.cell? ⟨w.heap.size, 1, none⟩ = some (I 0) := by rw [cell_of gX]; rfl
        have z2 : X12.cell? ⟨w.heap.size, 2, none⟩ = some (I 0) := by rw [cell_of gX]; rfl
        have z3 : X12.cell? ⟨w.heap.size, 3, none⟩ = some (I 0) := by rw [cell_of gX]; rfl
        have z4 : X12.cell? ⟨w.heap.size, 4, none⟩ = some (.string ⟨#[]⟩) := by rw [cell_of gX]; rfl
        have z5 : X12.cell? ⟨w.heap.size, 5, none⟩ = some (.string ⟨#[]⟩) := by rw [cell_of gX]; rfl
        have z6 : X12.cell? ⟨w.heap.size, 6, none⟩ = some (I 0) := by rw [cell_of gX]; rfl
        have z7 : X12.cell? ⟨w.heap.size, 7, none⟩ = some (I 0) := by rw [cell_of gX]; rfl
        have z8 : X12.cell? ⟨w.heap.size, 8, none⟩ = some (I 0) := by rw [cell_of gX]; rfl
        have z9 : X12.cell? ⟨w.heap.size, 9, none⟩ = some (I 0) := by rw [cell_of gX]; rfl
        have z10 : X12.cell? ⟨w.heap.size, 10, none⟩ = some (I 0) := by rw [cell_of gX]; rfl
        have z11 : X12.cell? ⟨w.heap.size, 11, none⟩ = some (.slice none 0 0) := by rw [cell_of gX]; rfl
        have HB := hide ((hB.trans (be2.mono (by omega))).trans ((hB3.mono (by have := be2.size; omega)).trans ((grY.below (by have := be2.size; omega) (by have := be2.size; omega)).trans (grX.below (Nat.le_refl _) (by have := be2.size; have := grY.size; omega)))))
        have hw2 : (dwhy q != 0) = true := by simpa using hwhy
        have hw3 : (dwhy q == 0) = false := by simpa using hwhy
        clear hwhy k0 gX grX gY grY g3 hB3 hs3 be2
        generalize dwhy q = y at *
        go_wp2_with fail
        exact bodyPost_ret (v := .tuple #[.agg Z12, I (n : Nat)]) (by simp [results, Try.results45, go_sem, z0, z1, z2, z3, z4, z5, z6, z7, z8, z9, z10, z11]) rfl (Fo.of (d := .slice none 0 0) rfl (Dt.nil _ _) (by first | exact unhide HB | exact below_drew (unhide HB)))
      · exact absurd h hwhy
    · rw [if_pos hwhy]
      go_enter Try.func45, Try.ntmps45
      go_wp2_with fail
      refine (unhide HD).mono ?_
      rintro e W2 ⟨⟨h, -⟩ | ⟨-, v, rfl, r2⟩, be2⟩
      · exact absurd hwhy h
      have hbm := (unhide HY).below (B := w.heap.size) (be2.mono (by omega))
      have r3 := r2.form
      obtain ⟨va, vc, rfl, hv1, hv2, hv3⟩ := r3
      obtain ⟨W3, hW3, hs3, g3, hB3⟩ := alloc1 W2 (.cells Z0 27)
      obtain ⟨Y1, Y2, Y3, Y4, Y5, Y6, Y7, Y8, Y9, ⟨p1, p2, p3, p4, p5, p6, p7, p8, p9⟩, ⟨t1, t2, t3, t4, t5, t6, t7, t8, t9⟩, ⟨u1, u2, u3, u4, u5, u6, u7, u8, u9⟩, gY, grY⟩ := store9 g3 (I (dcc q).op) (S (dcc q).path) (S (dcc q).dst) (I (dcc q).fd) (I (dcc q).fl) (I (dcc q).mo) (I (dcc q).n) (I (dcc q).m) (.slice va (dcc q).data.length vc)
      have hYB : Below W2.heap.size W2 Y9 := hB3.trans (grY.below (Nat.le_refl _) (by omega))
      have k0 := (hYB.block _ (lt_of_heap ((be2.block _ (lt_of_heap g0)).trans g0))).trans ((be2.block _ (lt_of_heap g0)).trans g0)
      have c1 := (hbm.below (hYB.mono (by have := be2.size; omega))).at' (k := 1) rfl
      obtain ⟨X1, X2, X3, X4, X5, X6, X7, X8, X9, X10, X11, X12, ⟨y1, y2, y3, y4, y5, y6, y7, y8, y9, y10, y11, y12⟩, ⟨s1, s2, s3, s4, s5, s6, s7, s8, s9, s10, s11, s12⟩, ⟨f1, f2, f3, f4, f5, f6, f7, f8, f9, f10, f11, f12⟩, gX, grX⟩ := store12 k0 (I 1) (I (t.toNat : Nat)) (I 0) (I (dcc q).op) (S (dcc q).path) (S (dcc q).dst) (I (dcc q).fd) (I (dcc q).fl) (I (dcc q).mo) (I (dcc q).n) (I (dcc q).m) (.slice va (dcc q).data.length vc)
      have z0 : X12.cell? ⟨w.heap.size, 0, none⟩ = some (I 1) := by rw [cell_of gX]; rfl
      have z1 : X12.cell? ⟨w.heap.size, 1, none⟩ = some (I (t.toNat : Nat)) := by rw [cell_of gX]; rfl
      have z2 : X12.cell? ⟨w.heap.size, 2, none⟩ = some (I 0) := by rw [cell_of gX]; rfl
      have z3 : X12.cell? ⟨w.heap.size, 3, none⟩ = some (I (dcc q).op) := by rw [cell_of gX]; rfl
      have z4 : X12.cell? ⟨w.heap.size, 4, none⟩ = some (S (dcc q).path) := by rw [cell_of gX]; rfl
      have z5 : X12.cell? ⟨w.heap.size, 5, none⟩ = some (S (dcc q).dst) := by rw [cell_of gX]; rfl
      have z6 : X12.cell? ⟨w.heap.size, 6, none⟩ = some (I (dcc q).fd) := by rw [cell_of gX]; rfl
      have z7 : X12.cell? ⟨w.heap.size, 7, none⟩ = some (I (dcc q).fl) := by rw [cell_of gX]; rfl
      have z8 : X12.cell? ⟨w.heap.size, 8, none⟩ = some (I (dcc q).mo) := by rw [cell_of gX]; rfl
      have z9 : X12.cell? ⟨w.heap.size, 9, none⟩ = some (I (dcc q).n) := by rw [cell_of gX]; rfl
      have z10 : X12.cell? ⟨w.heap.size, 10, none⟩ = some (I (dcc q).m) := by rw [cell_of gX]; rfl
      have z11 : X12.cell? ⟨w.heap.size, 11, none⟩ = some (.slice va (dcc q).data.length vc) := by rw [cell_of gX]; rfl
      obtain ⟨e0, e1, e2, e3, e4, e5, e6, e7, e8⟩ := cells9 gY
      have hle : (q9 q).1.length ≤ q.length := by
        have := enc_dec q (by unfold dwhy at hwhy; cases hq : (q9 q).2 <;> simp_all)
        have := congrArg List.length this
        rw [List.length_append] at this
        omega
      have HB := hide ((hB.trans (be2.mono (by omega))).trans ((hYB.mono (by have := be2.size; omega)).trans (grX.below (Nat.le_refl _) (by have := be2.size; have := hYB.size; omega))))
      have r4 := r2.keep (W' := X12) fun k h1 h2 => (grX.block k (by have := hYB.size; omega) (by simp; omega)).trans (hYB.block k h2)
      have HV := hide (show Dt X12 X12.heap.size (.slice va (dcc q).data.length vc) (dcc q).data from bwDt r4)
      clear hwhy k0 gX grX gY grY g3 hB3 hs3 be2 hYB r2 r4 hbm hv1 hv2 hv3 HD HY hB g0 hs
      generalize hx : dcc q = x at *
      generalize hm : q.length - (q9 q).1.length = m at *
      have hm2 : (m : Int) ≤ 9223372036854775805 := by have := unhide hn; omega
      clear hle
      have ut := t.toNat_lt
      have ut0 : (t.toNat : Int) < 256 := by omega
      have ut1 : (0 : Int) ≤ (t.toNat : Int) := by omega
      have hm3 : (0 : Int) ≤ (m : Int) := by omega
      go_wp2_with fail
      go_region
      all_goals go_wp2_with fail
      all_goals refine bodyPost_ret (v := .tuple #[.agg #[I 1, I (t.toNat : Nat), I 0, I x.op, S x.path, S x.dst, I x.fd, I x.fl, I x.mo, I x.n, I x.m, .slice va x.data.length vc], I (2 + m : Nat)]) (by simp [results, Try.results45, go_sem, z0, z1, z2, z3, z4, z5, z6, z7, z8, z9, z10, z11]) rfl ?_
      all_goals rw [hx, hm]
      all_goals exact ⟨⟨.slice va x.data.length vc, rfl, Dt.drew (unhide HV)⟩, below_drew (unhide HB)⟩
end Go.Proofs.Ytcopjhidijhlaaa.Cl
