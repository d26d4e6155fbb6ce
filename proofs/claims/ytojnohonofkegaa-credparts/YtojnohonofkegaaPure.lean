/-
  Bits of numbers, as remainders: what and, or and and-not answer where seven, and the like, is the other one.
-/
import Derived.Test.YtojnohonofkegaaRows
import Derived.WalkKit
namespace Go.Proofs.Ytojnohonofkegaa
open Go.RowKit

theorem toNat_of (x : Int) : ((BitVec.ofInt 64 x).toNat : Int) = x % 18446744073709551616 := by
  rw [BitVec.toNat_ofInt]
  omega
theorem wrap_small {n : Nat} (h : n < 9223372036854775808) : IntKind.i64.wrap (n : Int) = n := by
  simp only [IntKind.wrap, IntKind.bits, IntKind.signed]
  simp
  omega
theorem wrap_zero {n : Nat} (h : n < 18446744073709551616) : IntKind.i64.wrap (n : Int) = 0 ↔ n = 0 := by
  simp only [IntKind.wrap, IntKind.bits, IntKind.signed]
  simp
  split <;> omega
theorem and_mask (n k m : Nat) (h : m &&& (2 ^ k - 1) = m) : n &&& m = (n % 2 ^ k) &&& m := by
  rw [← Nat.and_two_pow_sub_one_eq_mod, Nat.and_assoc, Nat.and_comm (2 ^ k - 1) m, h]
/-- The lowest three bits. -/
def lo (x : Int) : Nat := (x % 8).toNat
theorem lo_lt (x : Int) : lo x < 8 := by unfold lo; omega
theorem lo_cast (x : Int) : (lo x : Int) = x % 8 := by unfold lo; omega
theorem lo_mod (x : Int) : (BitVec.ofInt 64 x).toNat % 8 = lo x := by
  have := toNat_of x
  unfold lo
  omega
/-- And with a mask of ten bits at most. -/
theorem and_of (x : Int) (m : Nat) (hm : m < 1024) : bits .and .i64 x m = (((x % 1024).toNat &&& m : Nat) : Int) := by
  have h0 : m &&& (2 ^ 10 - 1) = m := by rw [Nat.and_two_pow_sub_one_eq_mod]; omega
  have h1 := toNat_of x
  have h2 : (BitVec.ofInt 64 x).toNat % 2 ^ 10 = (x % 1024).toNat := by omega
  have h3 : (BitVec.ofInt 64 (m : Int)).toNat = m := by have := toNat_of m; omega
  show IntKind.i64.wrap ((BitVec.ofInt 64 x &&& BitVec.ofInt 64 (m : Int)).toNat : Int) = _
  rw [BitVec.toNat_and, h3, and_mask _ 10 m h0, h2]
  apply wrap_small
  have : (x % 1024).toNat &&& m ≤ m := Nat.and_le_right
  omega
theorem and7 (x : Int) : bits .and .i64 x 7 = lo x := by
  rw [show (7 : Int) = ((7 : Nat) : Int) from rfl, and_of x 7 (by omega), and_mask _ 3 7 (by decide), show (7 : Nat) = 2 ^ 3 - 1 from rfl, Nat.and_two_pow_sub_one_eq_mod]
  unfold lo
  omega
theorem fin448 : ∀ n : Fin 1024, n.val &&& 448 = n.val / 64 % 8 * 64 := by decide +kernel
theorem fin56 : ∀ n : Fin 1024, n.val &&& 56 = n.val / 8 % 8 * 8 := by decide +kernel
theorem and448 (x : Int) : bits .and .i64 x 448 = x / 64 % 8 * 64 := by
  rw [show (448 : Int) = ((448 : Nat) : Int) from rfl, and_of x 448 (by omega)]
  have := fin448 ⟨(x % 1024).toNat, by omega⟩
  simp only at this
  rw [this]
  omega
theorem and56 (x : Int) : bits .and .i64 x 56 = x / 8 % 8 * 8 := by
  rw [show (56 : Int) = ((56 : Nat) : Int) from rfl, and_of x 56 (by omega)]
  have := fin56 ⟨(x % 1024).toNat, by omega⟩
  simp only at this
  rw [this]
  omega
/-- Has who has these all that is wanted? -/
def has (w m : Nat) : Bool := w &&& m == w
theorem lo_nat {n : Nat} (h : n < 8) : lo (n : Int) = n := by unfold lo; omega
theorem bv_not (a b : BitVec 64) : a &&& ~~~b = 0#64 ↔ a &&& b = a := by
  constructor
  · intro h
    ext i hi
    have := congrArg (fun v => v.getLsbD i) h
    simp [BitVec.getLsbD_eq_getElem hi] at this
    simp
    exact this
  · intro h
    ext i hi
    have := congrArg (fun v => v.getLsbD i) h
    simp [BitVec.getLsbD_eq_getElem hi] at this
    simp
    exact this
theorem andNot_zero (w : Nat) (hw : w < 8) (b : Int) : (bits .andNot .i64 (w : Int) b == 0) = has w (lo b) := by
  have h1 := toNat_of (w : Int)
  have h3 : (BitVec.ofInt 64 (w : Int)).toNat = w := by omega
  have key : bits .andNot .i64 (w : Int) b = 0 ↔ w &&& lo b = w := by
    show IntKind.i64.wrap ((BitVec.ofInt 64 (w : Int) &&& ~~~BitVec.ofInt 64 b).toNat : Int) = 0 ↔ _
    rw [wrap_zero (BitVec.isLt _)]
    have e1 : ((BitVec.ofInt 64 (w : Int) &&& ~~~BitVec.ofInt 64 b).toNat = 0) ↔ (BitVec.ofInt 64 (w : Int) &&& ~~~BitVec.ofInt 64 b) = 0#64 := by
      constructor
      · intro h; exact BitVec.eq_of_toNat_eq (by simpa using h)
      · intro h; rw [h]; rfl
    rw [e1, bv_not]
    have e2 : (BitVec.ofInt 64 (w : Int) &&& BitVec.ofInt 64 b).toNat = w &&& lo b := by
      rw [BitVec.toNat_and, h3, Nat.and_comm, and_mask _ 3 w (by rw [Nat.and_two_pow_sub_one_eq_mod]; omega), lo_mod, Nat.and_comm]
    constructor
    · intro h
      rw [← e2, h, h3]
    · intro h
      apply BitVec.eq_of_toNat_eq
      rw [e2, h, h3]
  rw [Bool.eq_iff_iff, beq_iff_eq, key]
  simp [has]
theorem fin_and : ∀ a b : Fin 8, bits .and .i64 (a.val : Int) (b.val : Int) = ((a.val &&& b.val : Nat) : Int) := by decide +kernel
theorem fin_or : ∀ a b : Fin 8, bits .or .i64 (a.val : Int) (b.val : Int) = ((a.val ||| b.val : Nat) : Int) := by decide +kernel
theorem fin_lo : ∀ a b : Fin 8, a.val ||| b.val < 8 := by decide +kernel
theorem fin_has : ∀ a b m : Fin 8, has (a.val ||| b.val) m.val = (has a.val m.val && has b.val m.val) := by decide +kernel
theorem and_lo (a b : Int) : bits .and .i64 (lo a : Int) (lo b : Int) = ((lo a &&& lo b : Nat) : Int) := fin_and ⟨_, lo_lt a⟩ ⟨_, lo_lt b⟩
theorem or_lo (a b : Int) : bits .or .i64 (lo a : Int) (lo b : Int) = ((lo a ||| lo b : Nat) : Int) := fin_or ⟨_, lo_lt a⟩ ⟨_, lo_lt b⟩
theorem or_lt (a b : Int) : lo a ||| lo b < 8 := fin_lo ⟨_, lo_lt a⟩ ⟨_, lo_lt b⟩
theorem has_or (a b m : Int) : has (lo a ||| lo b) (lo m) = (has (lo a) (lo m) && has (lo b) (lo m)) := fin_has ⟨_, lo_lt a⟩ ⟨_, lo_lt b⟩ ⟨_, lo_lt m⟩
theorem has_and (w m : Int) : (bits .and .i64 (lo m : Int) (lo w : Int) == (lo w : Int)) = has (lo w) (lo m) := by
  rw [and_lo, Nat.and_comm]
  rw [Bool.eq_iff_iff, beq_iff_eq, has, beq_iff_eq]
  omega
theorem has_zero (m : Nat) : has 0 m = true := by simp [has]
theorem has_seven (w : Int) : has (lo w) 7 = true := by
  have : ∀ a : Fin 8, has a.val 7 = true := by decide +kernel
  exact this ⟨_, lo_lt w⟩
/-- Those bits that count for one of this owner and group, as a number whose lowest three they are. -/
def cnt (cu cg m su sg : Int) : Int := if cu = 0 then 7 else if cu = su then m / 64 else if cg = sg then m / 8 else m
/-- May: has c all of want? -/
def may (cu cg m su sg w : Int) : Bool := has (lo w) (lo (cnt cu cg m su sg))
def owns (cu su : Int) : Bool := cu == 0 || cu == su
def stk (cu dm du su : Int) : Bool := (bits .and .i64 dm 512 != 0) && !owns cu du && !owns cu su
end Go.Proofs.Ytojnohonofkegaa
