/-
  CredParts: what its walk needs.
-/
import Derived.Test.YtojnohonofkegaaTells
namespace Go.Proofs.Ytojnohonofkegaa
open Go.RowKit

theorem lo_lo (a : Int) : lo (lo a : Int) = lo a := lo_nat (lo_lt a)
theorem may7 (cu cg m u g a : Int) : may cu cg m u g (bits .and .i64 a 7) = may cu cg m u g a := by
  unfold may
  rw [and7, lo_lo]
theorem mayOr (cu cg m u g a b : Int) : may cu cg m u g (bits .or .i64 (bits .and .i64 a 7) (bits .and .i64 b 7)) = (may cu cg m u g a && may cu cg m u g b) := by
  unfold may
  rw [and7, and7, or_lo, lo_nat (or_lt a b), has_or]
/-- The bits that don't count may go. -/
def kp (cu cg m u g : Int) : Int := if cu = 0 then 0 else if cu = u then bits .and .i64 m 448 else if cg = g then bits .and .i64 m 56 else bits .and .i64 m 7
theorem may_kp (cu cg m u g a : Int) : may cu cg (kp cu cg m u g) u g a = may cu cg m u g a := by
  have h : lo (cnt cu cg (kp cu cg m u g) u g) = lo (cnt cu cg m u g) := by
    unfold cnt kp
    by_cases h0 : cu = 0
    · rw [if_pos h0, if_pos h0]
    · rw [if_neg h0, if_neg h0, if_neg h0]
      by_cases h1 : cu = u
      · rw [if_pos h1, if_pos h1, if_pos h1, and448]
        unfold lo
        omega
      · rw [if_neg h1, if_neg h1, if_neg h1]
        by_cases h2 : cg = g
        · rw [if_pos h2, if_pos h2, if_pos h2, and56]
          unfold lo
          omega
        · rw [if_neg h2, if_neg h2, if_neg h2, and7, lo_lo]
  unfold may
  rw [h]
/-- The two that came in, and where they lie. -/
def Kd (b0 b1 : Nat) (cu cg n k m u g l z : Int) (w v : World) : Prop := Laid w v [CrO cu cg, StO n k m u g l z] ∧ b0 = w.heap.size ∧ b1 = w.heap.size + 1
abbrev Two (b0 b1 : Nat) (cu cg n k m u g l z : Int) (W : World) : Prop :=
  W.cell? ⟨b0, 0, none⟩ = some (I cu) ∧ W.cell? ⟨b0, 1, none⟩ = some (I cg) ∧
  W.cell? ⟨b1, 0, none⟩ = some (I n) ∧ W.cell? ⟨b1, 1, none⟩ = some (I k) ∧ W.cell? ⟨b1, 2, none⟩ = some (I m) ∧ W.cell? ⟨b1, 3, none⟩ = some (I u) ∧ W.cell? ⟨b1, 4, none⟩ = some (I g) ∧ W.cell? ⟨b1, 5, none⟩ = some (I l) ∧ W.cell? ⟨b1, 6, none⟩ = some (I z)
theorem Kd.step {b0 b1 : Nat} {cu cg n k m u g l z : Int} {w v v' : World} (h : Kd b0 b1 cu cg n k m u g l z w v) (gr : Below v.heap.size v v') : Kd b0 b1 cu cg n k m u g l z w v' := ⟨h.1.step gr, h.2⟩
theorem Kd.drew {b0 b1 : Nat} {cu cg n k m u g l z : Int} {w v : World} (h : Kd b0 b1 cu cg n k m u g l z w v) : Kd b0 b1 cu cg n k m u g l z w v.drew := ⟨h.1.drew, h.2⟩
theorem Kd.two {b0 b1 : Nat} {cu cg n k m u g l z : Int} {w v : World} (h : Kd b0 b1 cu cg n k m u g l z w v) : Two b0 b1 cu cg n k m u g l z v := by
  obtain ⟨L, e0, e1⟩ := h
  obtain ⟨c0, c1⟩ := L.cr 0 (b := b0) (by omega) rfl
  obtain ⟨d0, d1, d2, d3, d4, d5, d6, d7⟩ := L.st 1 (b := b1) (by omega) rfl
  exact ⟨c0, c1, d0, d1, d2, d3, d4, d5, d6⟩

theorem lay1' (w : World) (a : Obj) : Laid w (w.alloc a) [a] := (Laid.nil w).put (by simp) a
/-- And one that was made out of the second, with another mode. -/
def Ke (b0 b1 b2 : Nat) (cu cg n k m u g l z x : Int) (w u' v : World) : Prop := Kd b0 b1 cu cg n k m u g l z w v ∧ Laid u' v [StO n k x u g l z] ∧ b2 = u'.heap.size
theorem Ke.step {b0 b1 b2 : Nat} {cu cg n k m u g l z x : Int} {w u' v v' : World} (h : Ke b0 b1 b2 cu cg n k m u g l z x w u' v) (gr : Below v.heap.size v v') : Ke b0 b1 b2 cu cg n k m u g l z x w u' v' := ⟨h.1.step gr, h.2.1.step gr, h.2.2⟩
theorem Ke.drew {b0 b1 b2 : Nat} {cu cg n k m u g l z x : Int} {w u' v : World} (h : Ke b0 b1 b2 cu cg n k m u g l z x w u' v) : Ke b0 b1 b2 cu cg n k m u g l z x w u' v.drew := ⟨h.1.drew, h.2.1.drew, h.2.2⟩
theorem Ke.three {b0 b1 b2 : Nat} {cu cg n k m u g l z x : Int} {w u' v : World} (h : Ke b0 b1 b2 cu cg n k m u g l z x w u' v) : Three b0 b1 b2 cu cg n k m u g l z n k x u g l z v := by
  obtain ⟨c0, c1, d0, d1, d2, d3, d4, d5, d6⟩ := h.1.two
  obtain ⟨f0, f1, f2, f3, f4, f5, f6, f7⟩ := h.2.1.st 0 (b := b2) (by have := h.2.2; omega) rfl
  exact ⟨c0, c1, d0, d1, d2, d3, d4, d5, d6, f0, f1, f2, f3, f4, f5, f6⟩
theorem Ke.made {b0 b1 : Nat} {cu cg n k m u g l z : Int} {w v : World} (h : Kd b0 b1 cu cg n k m u g l z w v) (x : Int) :
    Ke b0 b1 v.heap.size cu cg n k m u g l z x w v (v.alloc (StO n k x u g l z)) := by
  have T : Laid v (v.alloc (StO n k x u g l z)) [StO n k x u g l z] := lay1' v _
  exact ⟨h.step ((Below.refl _ _).alloc (Nat.le_refl _) _), T, rfl⟩
end Go.Proofs.Ytojnohonofkegaa
