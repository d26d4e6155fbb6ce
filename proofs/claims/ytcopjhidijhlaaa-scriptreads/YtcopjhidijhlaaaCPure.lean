/-
  What is written is read: plain reasoning on bytes.
-/
import Derived.Test.YtcopjhidijhlaaaCDec
namespace Go.Proofs.Ytcopjhidijhlaaa.Cl
open Go.RowKit

theorem rN_app (l m : List UInt8) : rN l.length (l ++ m, false) = (m, false) ∧ vN l.length (l ++ m, false) = nat l := by
  have h : ¬ l.length + m.length < l.length := by omega
  simp [rN, vN, lft, ctt, tkn, h]
theorem nat_app (a b : List UInt8) : nat (a ++ b) = nat a * 256 ^ b.length + nat b := by
  generalize hn : b.length = n
  induction n generalizing b with
  | zero => obtain rfl := List.eq_nil_of_length_eq_zero hn; simp [nat]
  | succ n ih =>
    obtain ⟨m, c, rfl⟩ : ∃ m c, b = m ++ [c] := ⟨b.dropLast, b.getLast (by rintro rfl; simp at hn), (List.dropLast_concat_getLast _).symm⟩
    rw [← List.append_assoc, nat_snoc, nat_snoc, ih m (by simpa using hn), Nat.pow_succ]
    rw [Nat.add_mul, Nat.mul_assoc]
    omega
theorem modmul (n p : Int) (hp : 0 < p) : n / p % 256 * p + n % p = n % (p * 256) := by
  have h1 := Int.emod_nonneg (n / p) (show (256 : Int) ≠ 0 by decide)
  have h2 := Int.emod_lt_of_pos (n / p) (show (0 : Int) < 256 by decide)
  have h3 := Int.emod_nonneg n (show p ≠ 0 by omega)
  have h4 := Int.emod_lt_of_pos n hp
  have h5 := Int.mul_ediv_add_emod n p
  have h6 := Int.mul_ediv_add_emod (n / p) 256
  have e : n = n / p % 256 * p + n % p + (p * 256) * (n / p / 256) := by
    generalize n % p = r at *
    generalize n / p % 256 = u at *
    generalize n / p / 256 = v at *
    rw [← h6, Int.mul_add] at h5
    rw [← h5, Int.mul_comm u p, Int.mul_assoc p 256 v]
    omega
  have hlt : n / p % 256 * p + n % p < p * 256 := by
    have : n / p % 256 * p ≤ 255 * p := Int.mul_le_mul_of_nonneg_right (by omega) (by omega)
    omega
  have hge : 0 ≤ n / p % 256 * p + n % p := by
    have := Int.mul_nonneg h1 (Int.le_of_lt hp)
    omega
  generalize hR : n / p % 256 * p + n % p = R at *
  generalize n / p / 256 = v at *
  rw [e, Int.add_mul_emod_self_left, Int.emod_eq_of_lt hge hlt]
theorem nat_be (k : Nat) (n : Int) : (nat (be k n) : Int) = n % 256 ^ k := by
  induction k with
  | zero => simp [be, nat, Int.emod_one]
  | succ k ih =>
    have e : be (k + 1) n = [byt n k] ++ be k n := rfl
    rw [e, nat_app, be_len]
    have h1 : nat [byt n k] = (byt n k).toNat := by simp [nat]
    rw [h1]
    have h2 : (2 : Int) ^ (8 * k) = 256 ^ k := by rw [Int.pow_mul]; rfl
    have h3 : ((nat (be k n) : Nat) : Int) = n % 256 ^ k := ih
    rw [Int.natCast_add, Int.natCast_mul, Int.natCast_pow, h3, byt_val, h2, Int.pow_succ]
    exact modmul n ((256 : Int) ^ k) (Int.pow_pos (by decide))
end Go.Proofs.Ytcopjhidijhlaaa.Cl
