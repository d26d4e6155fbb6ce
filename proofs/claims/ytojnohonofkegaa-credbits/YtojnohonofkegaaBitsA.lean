/-
  CredBits: what May answers for modes of one bit.
-/
import Derived.Test.YtojnohonofkegaaKnown
namespace Go.Proofs.Ytojnohonofkegaa
open Go.RowKit

/-- Of which class one is: 2 the owner, 1 of the group, 0 of the others. -/
def cls (cu cg u g : Int) : Int := if cu = u then 2 else if cg = g then 1 else 0
theorem may_all (cu cg u g : Int) : may cu cg 511 u g 7 = true := by
  have h : lo (cnt cu cg 511 u g) = 7 := by
    unfold cnt
    split
    · rfl
    · split
      · rfl
      · split <;> rfl
  unfold may
  rw [h]
  rfl
/-- Without any bit only the root may. -/
theorem may_none (cu cg u g : Int) (k : Int) (hk : k = 1 ∨ k = 2 ∨ k = 4) : may cu cg 0 u g k = (cu == 0) := by
  by_cases h0 : cu = 0
  · unfold may cnt
    rw [if_pos h0]
    rcases hk with rfl | rfl | rfl <;> simp [h0] <;> rfl
  · have h : lo (cnt cu cg 0 u g) = 0 := by
      unfold cnt
      rw [if_neg h0]
      split
      · rfl
      · split <;> rfl
    unfold may
    rw [h]
    have h0' : (cu == 0) = false := by simpa using h0
    rw [h0']
    rcases hk with rfl | rfl | rfl <;> rfl
/-- One bit of nine gives one right to one class. -/
theorem bit_fin : ∀ (i : Fin 9) (c k : Fin 3), has (2 ^ k.val) (lo (((2 ^ i.val : Nat) : Int) / (8 ^ c.val : Nat))) = decide (i.val = 3 * c.val + k.val) := by decide +kernel
theorem may_bit (cu cg u g : Int) (i k : Nat) (hi : i < 9) (hk : k < 3) :
    may cu cg ((2 ^ i : Nat) : Int) u g ((2 ^ k : Nat) : Int) = (cu == 0 || decide ((i : Int) = 3 * cls cu cg u g + k)) := by
  have hl : lo ((2 ^ k : Nat) : Int) = 2 ^ k := by
    apply lo_nat
    have : ∀ j : Fin 3, 2 ^ j.val < 8 := by decide
    exact this ⟨k, hk⟩
  unfold may
  rw [hl]
  by_cases h0 : cu = 0
  · unfold cnt
    rw [if_pos h0]
    have : ∀ j : Fin 3, has (2 ^ j.val) (lo 7) = true := by decide +kernel
    rw [this ⟨k, hk⟩]
    simp [h0]
  · have h0' : (cu == 0) = false := by simpa using h0
    rw [h0', Bool.false_or]
    unfold cnt cls
    rw [if_neg h0]
    by_cases h1 : cu = u
    · rw [if_pos h1, if_pos h1]
      have := bit_fin ⟨i, hi⟩ 2 ⟨k, hk⟩
      simp only [Fin.val_two] at this
      rw [show ((8 ^ 2 : Nat) : Int) = 64 from rfl] at this
      rw [this]
      congr 1
      exact propext ⟨fun h => by omega, fun h => by omega⟩
    · rw [if_neg h1, if_neg h1]
      by_cases h2 : cg = g
      · rw [if_pos h2, if_pos h2]
        have := bit_fin ⟨i, hi⟩ 1 ⟨k, hk⟩
        simp only [Fin.val_one] at this
        rw [show ((8 ^ 1 : Nat) : Int) = 8 from rfl] at this
        rw [this]
        congr 1
        exact propext ⟨fun h => by omega, fun h => by omega⟩
      · rw [if_neg h2, if_neg h2]
        have := bit_fin ⟨i, hi⟩ 0 ⟨k, hk⟩
        simp only [Fin.val_zero] at this
        rw [show ((8 ^ 0 : Nat) : Int) = 1 from rfl, Int.ediv_one] at this
        rw [this]
        congr 1
        exact propext ⟨fun h => by omega, fun h => by omega⟩
theorem Laid.two {w v : World} {cu cg n k m u g l z : Int} (h : Laid w v [CrO cu cg, StO n k m u g l z]) :
    (v.cell? ⟨w.heap.size, 0, none⟩ = some (I cu) ∧ v.cell? ⟨w.heap.size, 1, none⟩ = some (I cg)) ∧
    v.cell? ⟨w.heap.size + 1, 0, none⟩ = some (I n) ∧ v.cell? ⟨w.heap.size + 1, 1, none⟩ = some (I k) ∧ v.cell? ⟨w.heap.size + 1, 2, none⟩ = some (I m) ∧ v.cell? ⟨w.heap.size + 1, 3, none⟩ = some (I u) ∧ v.cell? ⟨w.heap.size + 1, 4, none⟩ = some (I g) ∧ v.cell? ⟨w.heap.size + 1, 5, none⟩ = some (I l) ∧ v.cell? ⟨w.heap.size + 1, 6, none⟩ = some (I z) ∧ ∀ j, v.frozen? ⟨w.heap.size + 1, j, none⟩ = false :=
  ⟨h.cr 0 rfl rfl, h.st 1 rfl rfl⟩
end Go.Proofs.Ytojnohonofkegaa
