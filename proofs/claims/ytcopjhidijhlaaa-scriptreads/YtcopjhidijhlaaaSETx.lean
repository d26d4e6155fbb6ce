/-
  The document's own reader: text, four.
-/
import Derived.Test.YtcopjhidijhlaaaSERd
import Derived.Test.YtcopjhidijhlaaaCDec
import Derived.Deep.RegionWith
namespace Go.Proofs.Ytcopjhidijhlaaa.Cl
open Go.RowKit
attribute [local go_sem ↓] Go.wp_at_zero Go.wp_at_succ

theorem wr64 (n : Int) (h0 : -9223372036854775808 ≤ n) (h1 : n ≤ 9223372036854775807) : wrap64 n = n := by unfold wrap64; omega
theorem wr32 (n : Int) (h0 : -2147483648 ≤ n) (h1 : n ≤ 2147483647) : wrap32 n = n := by unfold wrap32; omega
theorem wrap_small (z : Int) (h0 : 0 ≤ z) (h1 : z ≤ 65535) : IntKind.i64.wrap z = z := by
  rw [IntKind.wrap_i64]
  omega
theorem rT_cut {q : Rs} (h : (rN 2 q).2 = true) : (rT q).2 = true := by
  unfold rT
  show ctt _ _ (rN 2 q).2 = true
  unfold ctt
  rw [h]
  split <;> rfl
set_option maxRecDepth 100000 in
set_option maxHeartbeats 1000000 in
theorem ertext_any (B r : Nat) (a : Option Addr) (cap : Nat) (b : List UInt8) (p : Nat) (q : Rs) (W : World) (E : Er W B r a cap b p q) (hb : B ≤ W.heap.size) :
    Calls Try.prog 38 #[Pt r 0] W fun e W' => ∃ t p', e = .returned (S t) ∧ t.length ≤ 100000 ∧ ((rT q).2 = false → t = vT q) ∧ Er W' B r a cap b p' (rT q) ∧ Gr r W W' := by
  have HT := hide (etake_any B r a cap b p q 2 (by omega) W E)
  clear E
  go_enter Try.func38, Try.ntmps38
  go_wp2_with fail
  refine (unhide HT).mono ?_
  rintro e W1 ⟨a1, c1, n, l1, p1, rfl, hn, -, hby, hl, E1, G1⟩
  have c2 : W1.cell? ⟨r, 2, none⟩ = some (.bool (!(rN 2 q).2)) := by rw [cell_of E1.h]; rfl
  cases hq : (rN 2 q).2 with
  | true =>
    rw [hq] at c2
    simp only [Bool.not_true] at c2
    have HE := hide (⟨E1, G1⟩ : _ ∧ _)
    have HQ := hide hq
    clear E1 G1 hby hl hn hq HT
    go_wp2_with fail
    go_ret
    exact ⟨[], p1, rfl, Nat.zero_le _, (fun h => by rw [rT_cut (unhide HQ)] at h; cases h), (unhide HE).1.cut (unhide HQ) (rT_cut (unhide HQ)), (unhide HE).2⟩
  | false =>
    rw [hq] at c2
    simp only [Bool.not_false] at c2
    obtain ⟨h1, h2⟩ := hl hq
    rw [h2] at hn
    subst hn
    match l1, h2, h1, hby with
    | [x0, x1], _, h1, hby =>
    obtain ⟨g, off, rfl, -, d0⟩ := hby 0 x0 rfl
    obtain ⟨g', off', e1, -, d1⟩ := hby 1 x1 rfl
    simp at e1
    obtain ⟨rfl, rfl⟩ := e1
    have hv : vN 2 q = x0.toNat * 256 + x1.toNat := by
      unfold vN
      rw [← h1]
      simp [nat]
    have hx0 := x0.toNat_lt
    have hx1 := x1.toNat_lt
    have hor := or_bits x0.toNat x1.toNat (by omega) (by omega)
    rw [← hv] at hor
    have hor2 : bits .or .i64 (IntKind.i64.wrap (IntKind.i64.wrap (x0.toNat : Int) * 256)) (IntKind.i64.wrap (x1.toNat : Int)) = ((vN 2 q : Nat) : Int) := by
      rw [wrap_small (x0.toNat : Int) (by omega) (by omega), wrap_small ((x0.toNat : Int) * 256) (by omega) (by omega), wrap_small (x1.toNat : Int) (by omega) (by omega)]
      exact hor
    clear hor
    have h16 : vN 2 q ≤ 65535 := by omega
    have HT2 := hide (show ∀ W', Below W1.heap.size W1 W' → Calls Try.prog 37 #[Pt r 0, I (vN 2 q : Nat)] W' _ from fun W' g => etake_any B r a cap b p1 (rN 2 q) (vN 2 q) (by omega) W' (E1.keep g))
    have HG := hide G1
    have h17 : vN 2 q ≤ 100000 := Nat.le_trans h16 (by omega)
    have hB1 : B ≤ W1.heap.size := Nat.le_trans hb G1.size
    have HBY := hide (show ∀ W', Below B W1 W' → W'.cell? ⟨g, off, none⟩ = some (.int .u8 (x0.toNat : Int)) ∧ W'.cell? ⟨g, off + 1, none⟩ = some (.int .u8 (x1.toNat : Int)) from fun W' k => by
      obtain ⟨g2, off2, e1, -, d0⟩ := (hby.below k) 0 x0 rfl
      simp at e1
      obtain ⟨rfl, rfl⟩ := e1
      obtain ⟨g3, off3, e1, -, d1⟩ := (hby.below k) 1 x1 rfl
      simp at e1
      obtain ⟨rfl, rfl⟩ := e1
      exact ⟨d0, d1⟩)
    have hBr := E1.hB
    simp only [Nat.add_zero] at d0
    generalize x0.toNat = y0 at *
    generalize x1.toNat = y1 at *
    have k0 : (0 : Int) ≤ (y0 : Int) := by omega
    have k1 : (y0 : Int) ≤ 255 := by omega
    have k2 : (0 : Int) ≤ (y1 : Int) := by omega
    have k3 : (y1 : Int) ≤ 255 := by omega
    clear E1 G1 hby hl h1 hq HT hv hx0 hx1
    go_wp2_with fail
    go_region_with (first
      | (go_at_call 37; refine (unhide HT2 _ (below_drew (Below.refl _ _))).mono ?_; rintro e W2 ⟨a2, c3, n2, l2, p2, rfl, hn2, hln, hby2, hl2, E2, G2⟩; have hcv := conv_by hby2 n2 c3 hn2; replace hn2 := hide hn2; have hln2 : l2.length ≤ 100000 := Nat.le_trans hln h17; have HE2 := hide (⟨hl2, E2, G2, hln2⟩ : _ ∧ _ ∧ _ ∧ _); clear hby2 hl2 E2 G2 hln hln2))
    all_goals go_wp2_with fail
    all_goals go_ret
    all_goals exact ⟨l2, p2, rfl, (unhide HE2).2.2.2, (fun h => ((unhide HE2).1 h).1), (unhide HE2).2.1, ((unhide HG).trans (Gr.below' (below_drew (Below.refl _ _)))).trans (unhide HE2).2.2.1⟩
theorem or_bits32 (m k c : Nat) (hc : c < 2 ^ k) (h : m * 2 ^ k + c < 4294967296) : bits .or .u32 ((m * 2 ^ k : Nat) : Int) ((c : Nat) : Int) = ((m * 2 ^ k + c : Nat) : Int) := by
  show IntKind.u32.wrap ((BitVec.ofInt 32 ((m * 2 ^ k : Nat) : Int) ||| BitVec.ofInt 32 (c : Int)).toNat : Int) = _
  have e := Nat.two_pow_add_eq_or_of_lt hc m
  rw [BitVec.ofInt_natCast, BitVec.ofInt_natCast, BitVec.toNat_or, BitVec.toNat_ofNat, BitVec.toNat_ofNat, Nat.mod_eq_of_lt (by omega), Nat.mod_eq_of_lt (by omega), Nat.mul_comm m, ← e, IntKind.wrap_u32]
  rw [Nat.mul_comm] at h
  omega
set_option maxRecDepth 100000 in
set_option maxHeartbeats 1000000 in
theorem erfour_any (B r : Nat) (a : Option Addr) (cap : Nat) (b : List UInt8) (p : Nat) (q : Rs) (W : World) (E : Er W B r a cap b p q) :
    Calls Try.prog 39 #[Pt r 0] W fun e W' => ∃ n p', e = .returned (I n) ∧ ((rN 4 q).2 = false → n = sx (vN 4 q)) ∧ Er W' B r a cap b p' (rN 4 q) ∧ Gr r W W' := by
  have HT := hide (etake_any B r a cap b p q 4 (by omega) W E)
  clear E
  go_enter Try.func39, Try.ntmps39
  go_wp2_with fail
  refine (unhide HT).mono ?_
  rintro e W1 ⟨a1, c1, n, l1, p1, rfl, hn, -, hby, hl, E1, G1⟩
  have c2 : W1.cell? ⟨r, 2, none⟩ = some (.bool (!(rN 4 q).2)) := by rw [cell_of E1.h]; rfl
  cases hq : (rN 4 q).2 with
  | true =>
    rw [hq] at c2
    simp only [Bool.not_true] at c2
    have HE := hide (⟨E1, G1⟩ : _ ∧ _)
    have HQ := hide hq
    clear E1 G1 hby hl hn hq HT
    go_wp2_with fail
    go_ret
    exact ⟨0, p1, rfl, (fun h => by rw [unhide HQ] at h; cases h), (unhide HE).1, (unhide HE).2⟩
  | false =>
    rw [hq] at c2
    simp only [Bool.not_false] at c2
    obtain ⟨h1, h2⟩ := hl hq
    rw [h2] at hn
    subst hn
    match l1, h2, h1, hby with
    | [x0, x1, x2, x3], _, h1, hby =>
    obtain ⟨g, off, rfl, -, d0⟩ := hby 0 x0 rfl
    obtain ⟨g', off', e1, -, d1⟩ := hby 1 x1 rfl
    simp at e1
    obtain ⟨rfl, rfl⟩ := e1
    obtain ⟨g', off', e1, -, d2⟩ := hby 2 x2 rfl
    simp at e1
    obtain ⟨rfl, rfl⟩ := e1
    obtain ⟨g', off', e1, -, d3⟩ := hby 3 x3 rfl
    simp at e1
    obtain ⟨rfl, rfl⟩ := e1
    have hv : vN 4 q = ((x0.toNat * 256 + x1.toNat) * 256 + x2.toNat) * 256 + x3.toNat := by
      unfold vN
      rw [← h1]
      simp [nat]
    have hx0 := x0.toNat_lt
    have hx1 := x1.toNat_lt
    have hx2 := x2.toNat_lt
    have hx3 := x3.toNat_lt
    have HG := hide (⟨E1, G1⟩ : _ ∧ _)
    simp only [Nat.add_zero] at d0
    have hV := hide hv
    generalize x0.toNat = y0 at *
    generalize x1.toNat = y1 at *
    generalize x2.toNat = y2 at *
    generalize x3.toNat = y3 at *
    have k0 : (0 : Int) ≤ (y0 : Int) := by omega
    have k1 : (y0 : Int) ≤ 255 := by omega
    have k2 : (0 : Int) ≤ (y1 : Int) := by omega
    have k3 : (y1 : Int) ≤ 255 := by omega
    have k4 : (0 : Int) ≤ (y2 : Int) := by omega
    have k5 : (y2 : Int) ≤ 255 := by omega
    have k6 : (0 : Int) ≤ (y3 : Int) := by omega
    have k7 : (y3 : Int) ≤ 255 := by omega
    clear E1 G1 hby hl h1 hq HT hx0 hx1 hx2 hx3 hv
    go_wp2_with fail
    go_quiet (fail)
    go_wp2_with fail
    go_ret
    refine ⟨_, p1, rfl, fun _ => ?_, (unhide HG).1.keep (below_dn (Below.refl _ _) _), (unhide HG).2.trans (Gr.below' (below_dn (Below.refl _ _) _))⟩
    have E1 : bits .or .u32 ((y0 : Int) * 16777216) ((y1 : Int) * 65536) = (((y0 * 256 + y1) * 2 ^ 16 : Nat) : Int) := by
      rw [show ((y0 : Int) * 16777216) = ((y0 * 2 ^ 24 : Nat) : Int) by omega, show ((y1 : Int) * 65536) = ((y1 * 65536 : Nat) : Int) by omega, or_bits32 y0 24 (y1 * 65536) (by omega) (by omega)]
      omega
    have E2 : bits .or .u32 (((y0 * 256 + y1) * 2 ^ 16 : Nat) : Int) ((y2 : Int) * 256) = ((((y0 * 256 + y1) * 256 + y2) * 2 ^ 8 : Nat) : Int) := by
      rw [show ((y2 : Int) * 256) = ((y2 * 256 : Nat) : Int) by omega, or_bits32 (y0 * 256 + y1) 16 (y2 * 256) (by omega) (by omega)]
      omega
    rw [E1, E2, or_bits32 ((y0 * 256 + y1) * 256 + y2) 8 y3 (by omega) (by omega), unhide hV]
    have hb : ((y0 * 256 + y1) * 256 + y2) * 2 ^ 8 + y3 < 4294967296 := by omega
    have he : ((y0 * 256 + y1) * 256 + y2) * 2 ^ 8 + y3 = ((y0 * 256 + y1) * 256 + y2) * 256 + y3 := by omega
    rw [he] at hb ⊢
    generalize ((y0 * 256 + y1) * 256 + y2) * 256 + y3 = n at *
    unfold sx
    by_cases hn : n < 2147483648
    · rw [if_pos hn, wr32 _ (by omega) (by omega), wr64 _ (by omega) (by omega)]
    · have e : wrap32 (n : Int) = (n : Int) - 4294967296 := by unfold wrap32; omega
      rw [if_neg hn, e, wr64 _ (by omega) (by omega)]
end Go.Proofs.Ytcopjhidijhlaaa.Cl
