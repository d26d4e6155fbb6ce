/-
  The contract of first.
-/
import Derived.Test.YtcopjhidijhlaaaSD
namespace Go.Proofs.Ytcopjhidijhlaaa.Cl
open Go.RowKit
attribute [local go_sem ↓] Go.wp_at_zero Go.wp_at_succ

theorem start_any (k : UInt8) (r : List UInt8) (hk : k.toNat = 1) (a : Option Addr) (n cap : Nat) (hn : n = (k :: r).length) (hc : n ≤ cap) (hm : cap ≤ maxLen) (w : World) (hb : By w w.heap.size a (k :: r)) :
    Calls Try.prog 45 #[.slice a n cap] w fun e w' => Fo w w' e (fone (k :: r)) := by
  cases r with
  | nil =>
    have e : fone [k] = (it0, n) := by
      subst hn
      simp [fone, hk]
    rw [e]
    exact start_no [k] a n cap hn (by subst hn; simp) w
  | cons t q =>
    have e : fone (k :: t :: q) = (if dwhy q = 0 then (⟨1, t.toNat, 0, dcc q⟩, 2 + (q.length - (q9 q).1.length)) else (it0, n)) := by
      subst hn
      simp [fone, hk]
    rw [e]
    exact start_yes k t q a n cap (by simpa using hn) hc hm w hb
theorem numbered_any (k : UInt8) (r : List UInt8) (hk : k.toNat = 2 ∨ k.toNat = 3) (a : Option Addr) (n cap : Nat) (hn : n = (k :: r).length) (w : World) (hb : By w w.heap.size a (k :: r)) :
    Calls Try.prog 46 #[.slice a n cap] w fun e w' => Fo w w' e (fone (k :: r)) := by
  have h1 : ¬ k.toNat = 1 := by omega
  match r, hn, hb with
  | [], hn, hb =>
    have e : fone [k] = (it0, n) := by
      subst hn
      simp [fone, h1, hk]
    rw [e]
    exact numbered_no [k] a n cap hn (by subst hn; simp) w
  | [t], hn, hb =>
    have e : fone [k, t] = (it0, n) := by
      subst hn
      simp [fone, h1, hk]
    rw [e]
    exact numbered_no [k, t] a n cap hn (by subst hn; simp) w
  | h :: l :: t, hn, hb =>
    have e : fone (k :: h :: l :: t) = (⟨k.toNat, 0, (h.toNat * 256 + l.toNat : Nat), cc0⟩, 3) := by
      simp [fone, h1, hk]
    rw [e]
    exact numbered_yes k h l t a n cap (by simpa using hn) w hb
set_option maxRecDepth 100000 in
set_option maxHeartbeats 2000000 in
theorem first_any (k : UInt8) (r : List UInt8) (a : Option Addr) (n cap : Nat) (hn : n = (k :: r).length) (hc : n ≤ cap) (hm : cap ≤ maxLen) (w : World) (hb : By w w.heap.size a (k :: r)) :
    Calls Try.prog 33 #[.slice a n cap] w fun e w' => Fo w w' e (fone (k :: r)) := by
  obtain ⟨V, hV, hs, g0, hB⟩ := alloc1 w (.cells Z12 29)
  have hbV := (hb.below hB).mono (show w.heap.size ≤ V.heap.size by omega)
  obtain ⟨g, off, rfl, hg⟩ := hb.head
  have c0 := hbV.at' (k := 0) rfl
  simp only [Nat.add_zero] at c0
  have hn1 : 0 < n := by simp at hn; omega
  have hn2 : (0 : Int) < (n : Int) := by omega
  rcases (show k.toNat = 1 ∨ (k.toNat = 2 ∨ k.toNat = 3) ∨ (k.toNat ≠ 1 ∧ k.toNat ≠ 2 ∧ k.toNat ≠ 3) by omega) with hk | hk | hk
  · have hk1 : ((k.toNat : Int) == 1) = true := by simp; omega
    have HD := hide (start_any k r hk (some ⟨g, off, none⟩) n cap hn hc hm V hbV)
    have HB := hide hB
    have HG := hide g0
    have HS := hide hs
    have hy : ∃ y, fone (k :: r) = y := ⟨_, rfl⟩
    obtain ⟨y, hy⟩ := hy
    rw [hy] at HD ⊢
    replace hy := hide hy
    clear hbV hb hc hm hn hB g0 hs hk
    go_enter Try.func33, Try.ntmps33
    go_wp2_with fail
    refine (unhide HD).mono ?_
    rintro e W2 ⟨⟨d, rfl, hd⟩, be2⟩
    obtain ⟨da, dc, rfl, -⟩ : ∃ da dc, d = .slice da y.1.c.data.length dc ∧ True := by obtain ⟨da, dc, h, -⟩ := hd; exact ⟨da, dc, h, trivial⟩
    have k0 := (be2.block _ (lt_of_heap (unhide HG))).trans (unhide HG)
    obtain ⟨X1, X2, X3, X4, X5, X6, X7, X8, X9, X10, X11, X12, ⟨y1, y2, y3, y4, y5, y6, y7, y8, y9, y10, y11, y12⟩, ⟨s1, s2, s3, s4, s5, s6, s7, s8, s9, s10, s11, s12⟩, ⟨f1, f2, f3, f4, f5, f6, f7, f8, f9, f10, f11, f12⟩, gX, grX⟩ := store12 k0 (I y.1.kind) (I y.1.thread) (I y.1.n) (I y.1.c.op) (S y.1.c.path) (S y.1.c.dst) (I y.1.c.fd) (I y.1.c.fl) (I y.1.c.mo) (I y.1.c.n) (I y.1.c.m) (.slice da y.1.c.data.length dc)
    have z0 : X12.cell? ⟨w.heap.size, 0, none⟩ = some (I y.1.kind) := by rw [cell_of gX]; rfl
    have z1 : X12.cell? ⟨w.heap.size, 1, none⟩ = some (I y.1.thread) := by rw [cell_of gX]; rfl
    have z2 : X12.cell? ⟨w.heap.size, 2, none⟩ = some (I y.1.n) := by rw [cell_of gX]; rfl
    have z3 : X12.cell? ⟨w.heap.size, 3, none⟩ = some (I y.1.c.op) := by rw [cell_of gX]; rfl
    have z4 : X12.cell? ⟨w.heap.size, 4, none⟩ = some (S y.1.c.path) := by rw [cell_of gX]; rfl
    have z5 : X12.cell? ⟨w.heap.size, 5, none⟩ = some (S y.1.c.dst) := by rw [cell_of gX]; rfl
    have z6 : X12.cell? ⟨w.heap.size, 6, none⟩ = some (I y.1.c.fd) := by rw [cell_of gX]; rfl
    have z7 : X12.cell? ⟨w.heap.size, 7, none⟩ = some (I y.1.c.fl) := by rw [cell_of gX]; rfl
    have z8 : X12.cell? ⟨w.heap.size, 8, none⟩ = some (I y.1.c.mo) := by rw [cell_of gX]; rfl
    have z9 : X12.cell? ⟨w.heap.size, 9, none⟩ = some (I y.1.c.n) := by rw [cell_of gX]; rfl
    have z10 : X12.cell? ⟨w.heap.size, 10, none⟩ = some (I y.1.c.m) := by rw [cell_of gX]; rfl
    have z11 : X12.cell? ⟨w.heap.size, 11, none⟩ = some (.slice da y.1.c.data.length dc) := by rw [cell_of gX]; rfl
    have HB2 := hide ((unhide HB).trans ((be2.mono (by have := unhide HS; omega)).trans (grX.below (Nat.le_refl _) (Nat.le_of_lt (lt_of_heap k0)))))
    have HV := hide (show Dt X12 X12.heap.size (.slice da y.1.c.data.length dc) y.1.c.data from (hd.gr grX k0 (by decide)).mono grX.size)
    clear HD hd be2 gX grX k0 HB HG HS
    unfold It.cs
    go_wp2_with fail
    exact bodyPost_ret (v := .tuple #[.agg (y.1.cs (.slice da y.1.c.data.length dc)), I (y.2 : Nat)]) (by simp [results, Try.results33, go_sem, It.cs, z0, z1, z2, z3, z4, z5, z6, z7, z8, z9, z10, z11]) rfl ⟨⟨_, rfl, unhide HV⟩, unhide HB2⟩

  · have hk1 : ((k.toNat : Int) == 1) = false := by simp; omega
    have hkk := hide hk
    rcases hk with hk | hk
    · have hk2 : ((k.toNat : Int) == 2) = true := by simp; omega
      have HD := hide (numbered_any k r (unhide hkk) (some ⟨g, off, none⟩) n cap hn V hbV)
      have HB := hide hB
      have HG := hide g0
      have HS := hide hs
      have hy : ∃ y, fone (k :: r) = y := ⟨_, rfl⟩
      obtain ⟨y, hy⟩ := hy
      rw [hy] at HD ⊢
      replace hy := hide hy
      clear hbV hb hc hm hn hB g0 hs hk
      go_enter Try.func33, Try.ntmps33
      go_wp2_with fail
      refine (unhide HD).mono ?_
      rintro e W2 ⟨⟨d, rfl, hd⟩, be2⟩
      obtain ⟨da, dc, rfl, -⟩ : ∃ da dc, d = .slice da y.1.c.data.length dc ∧ True := by obtain ⟨da, dc, h, -⟩ := hd; exact ⟨da, dc, h, trivial⟩
      have k0 := (be2.block _ (lt_of_heap (unhide HG))).trans (unhide HG)
      obtain ⟨X1, X2, X3, X4, X5, X6, X7, X8, X9, X10, X11, X12, ⟨y1, y2, y3, y4, y5, y6, y7, y8, y9, y10, y11, y12⟩, ⟨s1, s2, s3, s4, s5, s6, s7, s8, s9, s10, s11, s12⟩, ⟨f1, f2, f3, f4, f5, f6, f7, f8, f9, f10, f11, f12⟩, gX, grX⟩ := store12 k0 (I y.1.kind) (I y.1.thread) (I y.1.n) (I y.1.c.op) (S y.1.c.path) (S y.1.c.dst) (I y.1.c.fd) (I y.1.c.fl) (I y.1.c.mo) (I y.1.c.n) (I y.1.c.m) (.slice da y.1.c.data.length dc)
      have z0 : X12.cell? ⟨w.heap.size, 0, none⟩ = some (I y.1.kind) := by rw [cell_of gX]; rfl
      have z1 : X12.cell? ⟨w.heap.size, 1, none⟩ = some (I y.1.thread) := by rw [cell_of gX]; rfl
      have z2 : X12.cell? ⟨w.heap.size, 2, none⟩ = some (I y.1.n) := by rw [cell_of gX]; rfl
      have z3 : X12.cell? ⟨w.heap.size, 3, none⟩ = some (I y.1.c.op) := by rw [cell_of gX]; rfl
      have z4 : X12.cell? ⟨w.heap.size, 4, none⟩ = some (S y.1.c.path) := by rw [cell_of gX]; rfl
      have z5 : X12.cell? ⟨w.heap.size, 5, none⟩ = some (S y.1.c.dst) := by rw [cell_of gX]; rfl
      have z6 : X12.cell? ⟨w.heap.size, 6, none⟩ = some (I y.1.c.fd) := by rw [cell_of gX]; rfl
      have z7 : X12.cell? ⟨w.heap.size, 7, none⟩ = some (I y.1.c.fl) := by rw [cell_of gX]; rfl
      have z8 : X12.cell? ⟨w.heap.size, 8, none⟩ = some (I y.1.c.mo) := by rw [cell_of gX]; rfl
      have z9 : X12.cell? ⟨w.heap.size, 9, none⟩ = some (I y.1.c.n) := by rw [cell_of gX]; rfl
      have z10 : X12.cell? ⟨w.heap.size, 10, none⟩ = some (I y.1.c.m) := by rw [cell_of gX]; rfl
      have z11 : X12.cell? ⟨w.heap.size, 11, none⟩ = some (.slice da y.1.c.data.length dc) := by rw [cell_of gX]; rfl
      have HB2 := hide ((unhide HB).trans ((be2.mono (by have := unhide HS; omega)).trans (grX.below (Nat.le_refl _) (Nat.le_of_lt (lt_of_heap k0)))))
      have HV := hide (show Dt X12 X12.heap.size (.slice da y.1.c.data.length dc) y.1.c.data from (hd.gr grX k0 (by decide)).mono grX.size)
      clear HD hd be2 gX grX k0 HB HG HS
      unfold It.cs
      go_wp2_with fail
      exact bodyPost_ret (v := .tuple #[.agg (y.1.cs (.slice da y.1.c.data.length dc)), I (y.2 : Nat)]) (by simp [results, Try.results33, go_sem, It.cs, z0, z1, z2, z3, z4, z5, z6, z7, z8, z9, z10, z11]) rfl ⟨⟨_, rfl, unhide HV⟩, unhide HB2⟩

    · have hk2 : ((k.toNat : Int) == 2) = false := by simp; omega
      have hk3 : ((k.toNat : Int) == 3) = true := by simp; omega
      have HD := hide (numbered_any k r (unhide hkk) (some ⟨g, off, none⟩) n cap hn V hbV)
      have HB := hide hB
      have HG := hide g0
      have HS := hide hs
      have hy : ∃ y, fone (k :: r) = y := ⟨_, rfl⟩
      obtain ⟨y, hy⟩ := hy
      rw [hy] at HD ⊢
      replace hy := hide hy
      clear hbV hb hc hm hn hB g0 hs hk
      go_enter Try.func33, Try.ntmps33
      go_wp2_with fail
      refine (unhide HD).mono ?_
      rintro e W2 ⟨⟨d, rfl, hd⟩, be2⟩
      obtain ⟨da, dc, rfl, -⟩ : ∃ da dc, d = .slice da y.1.c.data.length dc ∧ True := by obtain ⟨da, dc, h, -⟩ := hd; exact ⟨da, dc, h, trivial⟩
      have k0 := (be2.block _ (lt_of_heap (unhide HG))).trans (unhide HG)
      obtain ⟨X1, X2, X3, X4, X5, X6, X7, X8, X9, X10, X11, X12, ⟨y1, y2, y3, y4, y5, y6, y7, y8, y9, y10, y11, y12⟩, ⟨s1, s2, s3, s4, s5, s6, s7, s8, s9, s10, s11, s12⟩, ⟨f1, f2, f3, f4, f5, f6, f7, f8, f9, f10, f11, f12⟩, gX, grX⟩ := store12 k0 (I y.1.kind) (I y.1.thread) (I y.1.n) (I y.1.c.op) (S y.1.c.path) (S y.1.c.dst) (I y.1.c.fd) (I y.1.c.fl) (I y.1.c.mo) (I y.1.c.n) (I y.1.c.m) (.slice da y.1.c.data.length dc)
      have z0 : X12.cell? ⟨w.heap.size, 0, none⟩ = some (I y.1.kind) := by rw [cell_of gX]; rfl
      have z1 : X12.cell? ⟨w.heap.size, 1, none⟩ = some (I y.1.thread) := by rw [cell_of gX]; rfl
      have z2 : X12.cell? ⟨w.heap.size, 2, none⟩ = some (I y.1.n) := by rw [cell_of gX]; rfl
      have z3 : X12.cell? ⟨w.heap.size, 3, none⟩ = some (I y.1.c.op) := by rw [cell_of gX]; rfl
      have z4 : X12.cell? ⟨w.heap.size, 4, none⟩ = some (S y.1.c.path) := by rw [cell_of gX]; rfl
      have z5 : X12.cell? ⟨w.heap.size, 5, none⟩ = some (S y.1.c.dst) := by rw [cell_of gX]; rfl
      have z6 : X12.cell? ⟨w.heap.size, 6, none⟩ = some (I y.1.c.fd) := by rw [cell_of gX]; rfl
      have z7 : X12.cell? ⟨w.heap.size, 7, none⟩ = some (I y.1.c.fl) := by rw [cell_of gX]; rfl
      have z8 : X12.cell? ⟨w.heap.size, 8, none⟩ = some (I y.1.c.mo) := by rw [cell_of gX]; rfl
      have z9 : X12.cell? ⟨w.heap.size, 9, none⟩ = some (I y.1.c.n) := by rw [cell_of gX]; rfl
      have z10 : X12.cell? ⟨w.heap.size, 10, none⟩ = some (I y.1.c.m) := by rw [cell_of gX]; rfl
      have z11 : X12.cell? ⟨w.heap.size, 11, none⟩ = some (.slice da y.1.c.data.length dc) := by rw [cell_of gX]; rfl
      have HB2 := hide ((unhide HB).trans ((be2.mono (by have := unhide HS; omega)).trans (grX.below (Nat.le_refl _) (Nat.le_of_lt (lt_of_heap k0)))))
      have HV := hide (show Dt X12 X12.heap.size (.slice da y.1.c.data.length dc) y.1.c.data from (hd.gr grX k0 (by decide)).mono grX.size)
      clear HD hd be2 gX grX k0 HB HG HS
      unfold It.cs
      go_wp2_with fail
      exact bodyPost_ret (v := .tuple #[.agg (y.1.cs (.slice da y.1.c.data.length dc)), I (y.2 : Nat)]) (by simp [results, Try.results33, go_sem, It.cs, z0, z1, z2, z3, z4, z5, z6, z7, z8, z9, z10, z11]) rfl ⟨⟨_, rfl, unhide HV⟩, unhide HB2⟩

  · have hk1 : ((k.toNat : Int) == 1) = false := by simp; omega
    have hk2 : ((k.toNat : Int) == 2) = false := by simp; omega
    have hk3 : ((k.toNat : Int) == 3) = false := by simp; omega
    have e : fone (k :: r) = (it0, 1) := by simp [fone, hk]
    rw [e]
    obtain ⟨X1, X2, X3, X4, X5, X6, X7, X8, X9, X10, X11, X12, ⟨y1, y2, y3, y4, y5, y6, y7, y8, y9, y10, y11, y12⟩, ⟨s1, s2, s3, s4, s5, s6, s7, s8, s9, s10, s11, s12⟩, ⟨f1, f2, f3, f4, f5, f6, f7, f8, f9, f10, f11, f12⟩, gX, grX⟩ := store12 g0 (I 0) (I 0) (I 0) (I 0) (.string ⟨#[]⟩) (.string ⟨#[]⟩) (I 0) (I 0) (I 0) (I 0) (I 0) (.slice none 0 0)
    have z0 : X12.cell? ⟨w.heap.size, 0, none⟩ = some (I 0) := by rw [cell_of gX]; rfl
    have z1 : X12.cell? ⟨w.heap.size, 1, none⟩ = some (I 0) := by rw [cell_of gX]; rfl
    have z2 : X12.cell? ⟨w.heap.size, 2, none⟩ = some (I 0) := by rw [cell_of gX]; rfl
    have z3 : X12.cell? ⟨w.heap.size, 3, none⟩ = some (I 0) := by rw [cell_of gX]; rfl
    have z4 : X12.cell? ⟨w.heap.size, 4, none⟩ = some (.string ⟨#[]⟩) := by rw [cell_of gX]; rfl
    have z5 : X12.cell? ⟨w.heap.size, 5, none⟩ = some (.string ⟨#[]⟩) := by rw [cell_of gX]; rfl
    have z6 : X12.cell? ⟨w.heap.size, 6, none⟩ = some (I 0) := by rw [cell_of gX]; rfl
    have z7 : X12.cell? ⟨w.heap.size, 7, none⟩ = some (I 0) := by rw [cell_of gX]; rfl
    have z8 : X12.cell? ⟨w.heap.size, 8, none⟩ = some (I 0) := by rw [cell_of gX]; rfl
    have z9 : X12.cell? ⟨w.heap.size, 9, none⟩ = some (I 0) := by rw [cell_of gX]; rfl
    have z10 : X12.cell? ⟨w.heap.size, 10, none⟩ = some (I 0) := by rw [cell_of gX]; rfl
    have z11 : X12.cell? ⟨w.heap.size, 11, none⟩ = some (.slice none 0 0) := by rw [cell_of gX]; rfl
    have HB := hide (hB.trans (grX.below (Nat.le_refl _) (by omega)))
    clear hbV hb hc hm hn hB g0 hs gX grX hk e
    go_enter Try.func33, Try.ntmps33
    go_wp2_with fail
    exact bodyPost_ret (v := .tuple #[.agg Z12, I 1]) (by simp [results, Try.results33, go_sem, z0, z1, z2, z3, z4, z5, z6, z7, z8, z9, z10, z11]) rfl (Fo.of (d := .slice none 0 0) rfl (Dt.nil _ _) (unhide HB))
end Go.Proofs.Ytcopjhidijhlaaa.Cl
