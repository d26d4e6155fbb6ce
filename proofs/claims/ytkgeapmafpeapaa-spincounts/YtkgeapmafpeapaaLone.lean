/-
  A job that nobody disturbs, step by step: how far it has come behind so many steps.
-/
import Derived.Test.YtkgeapmafpeapaaKnown
namespace Go.Proofs.Ytkgeapmafpeapaa
open Go.RowKit

/-- A lone job's machine. -/
def loneM (k w a b : Int) (nx lf xb : Int) : Mach := ⟨k, 0, w, a, b, 1, false, 0, 0, 0, nx, lf, 0, 0, xb⟩

inductive Lone (a b : Int) (w : Nat) : Int → Nat → Mach → List Int → Prop
  | h0 : Lone a b w 1 0 (loneM 1 w a b 0 0 0) [0, 0, 0]
  | h3 (l : Nat) (hl : l ≤ w) : Lone a b w 1 (1 + w - l) (loneM 1 w a b 3 l 0) [1, 0, 0]
  | w0 : Lone a b w 2 0 (loneM 2 w a b 0 0 0) [0, 0, 0]
  | w1 : Lone a b w 2 1 (loneM 2 w a b 1 0 0) [0, 0, 0]
  | w2 : Lone a b w 2 2 (loneM 2 w a b 2 0 0) [1, 0, 0]
  | w3 (l : Nat) (hl : l ≤ w) : Lone a b w 2 (3 + w - l) (loneM 2 w a b 3 l 0) [1, a, 0]
  | w5 : Lone a b w 2 (4 + w) (loneM 2 w a b 5 0 0) [1, a, b]
  | r0 : Lone a b w 3 0 (loneM 3 w a b 0 0 0) [0, 0, 0]
  | r2 : Lone a b w 3 1 (loneM 3 w a b 2 0 0) [0, 0, 0]
  | r3 (l : Nat) (hl : l ≤ w) : Lone a b w 3 (2 + w - l) (loneM 3 w a b 3 l 0) [0, 0, 0]
  | r5 : Lone a b w 3 (3 + w) (loneM 3 w a b 5 0 0) [0, 0, 0]

def loneAll (k : Int) (w : Nat) : Nat := (if k = 1 then 2 else if k = 2 then 5 else 4) + w

theorem Lone.start {a b : Int} {w : Nat} {k : Int} (hk : k = 1 ∨ k = 2 ∨ k = 3) : Lone a b w k 0 (loneM k w a b 0 0 0) [0, 0, 0] := by
  rcases hk with rfl | rfl | rfl
  · exact .h0
  · exact .w0
  · exact .r0
theorem Lone.lt {a b : Int} {w : Nat} {k : Int} {i : Nat} {M : Mach} {ws : List Int} (h : Lone a b w k i M ws) : i < loneAll k w := by
  cases h <;> simp [loneAll] <;> omega
theorem Lone.ok {a b : Int} {w : Nat} (hw : w ≤ 100) {k : Int} {i : Nat} {M : Mach} {ws : List Int} (h : Lone a b w k i M ws) : M.ok 3 ∧ M.tries = 0 ∧ M.done = false := by
  cases h <;> refine ⟨⟨?_, ?_, ?_, ?_, ?_, ?_, ?_, ?_, ?_, ?_, ?_⟩, rfl, rfl⟩ <;> simp [loneM] <;> omega
theorem Lone.step {a b : Int} {w : Nat} {k : Int} {i : Nat} {M : Mach} {ws : List Int} (h : Lone a b w k i M ws) :
    (M.step ws).1.tries = 0 ∧ (((M.step ws).1.done = true ∧ i + 1 = loneAll k w) ∨ ((M.step ws).1.done = false ∧ Lone a b w k (i + 1) (M.step ws).1 (M.step ws).2)) := by
  cases h with
  | h0 => exact ⟨rfl, .inr ⟨rfl, by have := Lone.h3 (a := a) (b := b) w (Nat.le_refl w); simpa [Mach.step, Mach.stepH, loneM, Nat.add_comm] using this⟩⟩
  | h3 l hl =>
    by_cases h0 : l = 0
    · subst h0; exact ⟨rfl, .inl ⟨rfl, by simp [loneAll]; omega⟩⟩
    · have e : (loneM 1 w a b 3 l 0).step [1, 0, 0] = (loneM 1 w a b 3 ((l - 1 : Nat) : Int) 0, [1, 0, 0]) := by
        have h2 : (l : Int) - 1 = ((l - 1 : Nat) : Int) := by omega
        simp [Mach.step, Mach.stepH, loneM, Mach.toil, h2, h0]
      rw [e]
      refine ⟨rfl, .inr ⟨rfl, ?_⟩⟩
      have := Lone.h3 (a := a) (b := b) (w := w) (l - 1) (by omega)
      rwa [show 1 + w - (l - 1) = 1 + w - l + 1 by omega] at this
  | w0 => exact ⟨rfl, .inr ⟨rfl, .w1⟩⟩
  | w1 => exact ⟨rfl, .inr ⟨rfl, .w2⟩⟩
  | w2 => exact ⟨rfl, .inr ⟨rfl, by have := Lone.w3 (a := a) (b := b) w (Nat.le_refl w); simpa [Mach.step, Mach.stepW, loneM, Nat.add_comm] using this⟩⟩
  | w3 l hl =>
    by_cases h0 : l = 0
    · subst h0; exact ⟨rfl, .inr ⟨rfl, by have := Lone.w5 (a := a) (b := b) (w := w); rwa [show 4 + w = 3 + w - 0 + 1 by omega] at this⟩⟩
    · have e : (loneM 2 w a b 3 l 0).step [1, a, 0] = (loneM 2 w a b 3 ((l - 1 : Nat) : Int) 0, [1, a, 0]) := by
        have h2 : (l : Int) - 1 = ((l - 1 : Nat) : Int) := by omega
        simp [Mach.step, Mach.stepW, loneM, Mach.toil, h2, h0]
      rw [e]
      refine ⟨rfl, .inr ⟨rfl, ?_⟩⟩
      have := Lone.w3 (a := a) (b := b) (w := w) (l - 1) (by omega)
      rwa [show 3 + w - (l - 1) = 3 + w - l + 1 by omega] at this
  | w5 => exact ⟨rfl, .inl ⟨rfl, by simp [loneAll]; omega⟩⟩
  | r0 => exact ⟨rfl, .inr ⟨rfl, .r2⟩⟩
  | r2 => exact ⟨rfl, .inr ⟨rfl, by have := Lone.r3 (a := a) (b := b) w (Nat.le_refl w); simpa [Mach.step, Mach.stepR, loneM, Nat.add_comm] using this⟩⟩
  | r3 l hl =>
    by_cases h0 : l = 0
    · subst h0; exact ⟨rfl, .inr ⟨rfl, by have := Lone.r5 (a := a) (b := b) (w := w); rwa [show 3 + w = 2 + w - 0 + 1 by omega] at this⟩⟩
    · have e : (loneM 3 w a b 3 l 0).step [0, 0, 0] = (loneM 3 w a b 3 ((l - 1 : Nat) : Int) 0, [0, 0, 0]) := by
        have h2 : (l : Int) - 1 = ((l - 1 : Nat) : Int) := by omega
        simp [Mach.step, Mach.stepR, loneM, Mach.toil, h2, h0]
      rw [e]
      refine ⟨rfl, .inr ⟨rfl, ?_⟩⟩
      have := Lone.r3 (a := a) (b := b) (w := w) (l - 1) (by omega)
      rwa [show 2 + w - (l - 1) = 2 + w - l + 1 by omega] at this
  | r5 => exact ⟨rfl, .inl ⟨rfl, by simp [loneAll]; omega⟩⟩
end Go.Proofs.Ytkgeapmafpeapaa
