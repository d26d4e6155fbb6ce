/-
  A number with its last bit turned is another one.
-/
import Derived.Test.YthmpplcaomgdoaaMBase
import Derived.Laws.Entries
namespace Go.Proofs.Ythmpplcaomgdoaa.Mt
open Go.RowKit
theorem xor_ne (a : Int) : ¬ bits .xor .i64 a 1 = a := by
  intro h
  have h1 : BitVec.ofInt 64 (bits .xor .i64 a 1) = BitVec.ofInt 64 a ^^^ 1#64 := by
    show BitVec.ofInt 64 (IntKind.i64.wrap ((BitVec.ofInt 64 a ^^^ BitVec.ofInt 64 1).toNat : Int)) = _
    rw [IntKind.wrap_i64]
    apply BitVec.eq_of_toNat_eq
    have e1 : BitVec.ofInt 64 1 = 1#64 := by decide
    rw [e1]
    generalize BitVec.ofInt 64 a ^^^ 1#64 = v
    have hv := v.isLt
    rw [BitVec.toNat_ofInt]
    omega
  rw [h] at h1
  have h2 : (BitVec.ofInt 64 a).getLsbD 0 = (BitVec.ofInt 64 a ^^^ 1#64).getLsbD 0 := by rw [← h1]
  simp at h2
end Go.Proofs.Ythmpplcaomgdoaa.Mt
