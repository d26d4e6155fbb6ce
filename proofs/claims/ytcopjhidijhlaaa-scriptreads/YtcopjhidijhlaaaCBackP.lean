/-
  What is read is written as its bytes: plain reasoning.
-/
import Derived.Test.YtcopjhidijhlaaaCPureB
namespace Go.Proofs.Ytcopjhidijhlaaa.Cl
open Go.RowKit

theorem byt_mod (n p : Int) (k : Nat) (j : Nat) (hj : j < k) (h : n % 256 ^ k = p % 256 ^ k) : byt n j = byt p j := by
  have key : ∀ m : Int, m / 2 ^ (8 * j) % 256 = m % 256 ^ (j + 1) / 256 ^ j := by
    intro m
    have h2 : (2 : Int) ^ (8 * j) = 256 ^ j := by rw [Int.pow_mul]; rfl
    rw [h2]
    have hp : (0 : Int) < 256 ^ j := Int.pow_pos (by decide)
    have e := modmul m ((256 : Int) ^ j) hp
    rw [Int.pow_succ, ← e]
    have h3 := Int.emod_nonneg m (show (256 : Int) ^ j ≠ 0 by omega)
    have h4 := Int.emod_lt_of_pos m hp
    rw [Int.add_comm, Int.add_mul_ediv_right _ _ (by omega), Int.ediv_eq_zero_of_lt h3 h4, Int.zero_add]
  have hd : ∀ m : Int, m % 256 ^ (j + 1) = m % 256 ^ k % 256 ^ (j + 1) := by
    intro m
    have hdv : (256 : Int) ^ (j + 1) ∣ 256 ^ k := ⟨256 ^ (k - (j + 1)), by rw [← Int.pow_add]; congr 1; omega⟩
    exact (Int.emod_emod_of_dvd m hdv).symm
  unfold byt
  rw [key n, key p, hd n, hd p, h]
theorem be_mod (k : Nat) (n p : Int) (h : n % 256 ^ k = p % 256 ^ k) : ∀ j, j ≤ k → be j n = be j p := by
  intro j hj
  induction j with
  | zero => rfl
  | succ j ih =>
    simp only [be]
    rw [ih (by omega), byt_mod n p k j (by omega) h]
theorem be_nat (l : List UInt8) : be l.length (nat l : Nat) = l := by
  induction l with
  | nil => rfl
  | cons c l ih =>
    have e : nat (c :: l) = c.toNat * 256 ^ l.length + nat l := by
      have := nat_app [c] l
      simpa [nat] using this
    rw [e]
    simp only [List.length_cons, be]
    have hc := c.toNat_lt
    have hl := nat_lt l
    have h1 : byt ((c.toNat * 256 ^ l.length + nat l : Nat) : Int) l.length = c := by
      apply UInt8.toNat_inj.1
      have hv := byt_val ((c.toNat * 256 ^ l.length + nat l : Nat) : Int) l.length
      have h2 : (2 : Int) ^ (8 * l.length) = ((256 ^ l.length : Nat) : Int) := by rw [Int.pow_mul, Int.natCast_pow]; rfl
      rw [h2, ← Int.natCast_ediv] at hv
      have h3 : (c.toNat * 256 ^ l.length + nat l) / 256 ^ l.length = c.toNat := by
        rw [Nat.add_comm, Nat.add_mul_div_right _ _ (Nat.pow_pos (by decide)), Nat.div_eq_of_lt hl, Nat.zero_add]
      rw [h3] at hv
      omega
    have h2 : be l.length ((c.toNat * 256 ^ l.length + nat l : Nat) : Int) = be l.length ((nat l : Nat) : Int) := by
      refine be_mod l.length _ _ ?_ l.length (Nat.le_refl _)
      rw [Int.natCast_add, Int.natCast_mul, Int.natCast_pow, Int.add_comm]
      exact Int.add_mul_emod_self_right _ _ _
    rw [h1, h2, ih]
theorem rN_back (s : Nat) (q : Rs) (h : (rN s q).2 = false) : q.1 = be s (vN s q) ++ (rN s q).1 ∧ q.2 = false := by
  by_cases hl : q.1.length < s
  · simp [rN, ctt, hl] at h
  · simp only [rN, ctt, hl, if_false] at h
    refine ⟨?_, h⟩
    have hlen : (q.1.take s).length = s := by rw [List.length_take]; omega
    have hb := be_nat (q.1.take s)
    rw [hlen] at hb
    simp only [vN, tkn, rN, lft, hl, if_false, hb, List.take_append_drop]
theorem rT_back (q : Rs) (h : (rT q).2 = false) : q.1 = txt (vT q) ++ (rT q).1 ∧ q.2 = false ∧ (vT q).length = vN 2 q := by
  unfold rT at h
  obtain ⟨h1, h2⟩ := rN_back _ _ h
  obtain ⟨h3, h4⟩ := rN_back _ _ h2
  have hl : ¬ (rN 2 q).1.length < vN 2 q := by
    intro hh
    simp [rN, ctt] at h
    simp only [rN] at hh
    exact absurd hh (by omega)
  have hlen : (vT q).length = vN 2 q := by
    unfold vT tkn
    rw [if_neg hl, List.length_take]
    omega
  refine ⟨?_, h4, hlen⟩
  have e : (rN 2 q).1 = vT q ++ (rT q).1 := by
    show (rN 2 q).1 = tkn (vN 2 q) (rN 2 q).1 ++ lft (vN 2 q) (rN 2 q).1
    unfold tkn lft
    rw [if_neg hl, if_neg hl, List.take_append_drop]
  unfold txt
  rw [hlen, List.append_assoc, ← e]
  exact h3
theorem be_sx (n : Nat) : be 4 (sx n) = be 4 (n : Int) := by
  refine be_mod 4 _ _ ?_ 4 (Nat.le_refl _)
  unfold sx
  split <;> omega
/-- What is read is written as its bytes. -/
theorem enc_dec (b : List UInt8) (h : (q9 b).2 = false) : b = (dcc b).enc ++ (q9 b).1 := by
  have h9 := h
  unfold q9 at h9
  obtain ⟨e9, c9, -⟩ := rT_back _ h9
  have c5 : (rN 4 (qn b 4)).2 = false := c9
  obtain ⟨e4, c4⟩ := rN_back 4 (qn b 4) c5
  obtain ⟨e3, c3⟩ := rN_back 4 (qn b 3) c4
  obtain ⟨e2, c2⟩ := rN_back 4 (qn b 2) c3
  obtain ⟨e1, c1⟩ := rN_back 4 (qn b 1) c2
  obtain ⟨e0, c0⟩ := rN_back 4 (qn b 0) c1
  have c00 : (rT (rT (rN 1 (b, false)))).2 = false := c0
  obtain ⟨f2, g2, -⟩ := rT_back _ c00
  obtain ⟨f1, g1, -⟩ := rT_back _ g2
  obtain ⟨f0, -⟩ := rN_back 1 (b, false) g1
  rw [(dcc b).enc_eq (q9 b).1]
  simp only [dcc, be_sx]
  have k9 : (qn b 5).1 = txt (vT (qn b 5)) ++ (q9 b).1 := e9
  rw [← k9]
  have k4 : (qn b 4).1 = be 4 (vN 4 (qn b 4)) ++ (qn b 5).1 := e4
  have k3 : (qn b 3).1 = be 4 (vN 4 (qn b 3)) ++ (qn b 4).1 := e3
  have k2 : (qn b 2).1 = be 4 (vN 4 (qn b 2)) ++ (qn b 3).1 := e2
  have k1 : (qn b 1).1 = be 4 (vN 4 (qn b 1)) ++ (qn b 2).1 := e1
  have k0 : (qn b 0).1 = be 4 (vN 4 (qn b 0)) ++ (qn b 1).1 := e0
  rw [← k4, ← k3, ← k2, ← k1, ← k0]
  have j2 : (rT (rN 1 (b, false))).1 = txt (vT (rT (rN 1 (b, false)))) ++ (qn b 0).1 := f2
  rw [← j2, ← f1]
  exact f0
end Go.Proofs.Ytcopjhidijhlaaa.Cl
