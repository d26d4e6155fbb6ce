/-
  A job that nobody disturbs, step by step: how far it has come behind so many steps.
-/
import Derived.Test.YtkgeapmafpeapaaKnown
namespace Go.Proofs.Ytkgeapmafpeapaa
open Go.RowKit

/-- A lone job's machine. -/
def loneM (k w a b : Int) (nx lf xb : Int) : Mach := ⟨k, 0, w, a, b, 1, false, 0, 0, 0, nx, lf, 0, 0, xb⟩

def Lone (a b : Int) (w : Nat) (k : Int) (i : Nat) (M : Mach) (ws : List Int) : Prop := ∀ C : Int → Nat → Mach → List Int → Prop,
  C 1 0 (loneM 1 w a b 0 0 0) [0, 0, 0] →
  (∀ l : Nat, l ≤ w → C 1 (1 + w - l) (loneM 1 w a b 3 l 0) [1, 0, 0]) →
  C 2 0 (loneM 2 w a b 0 0 0) [0, 0, 0] →
  C 2 1 (loneM 2 w a b 1 0 0) [0, 0, 0] →
  C 2 2 (loneM 2 w a b 2 0 0) [1, 0, 0] →
  (∀ l : Nat, l ≤ w → C 2 (3 + w - l) (loneM 2 w a b 3 l 0) [1, a, 0]) →
  C 2 (4 + w) (loneM 2 w a b 5 0 0) [1, a, b] →
  C 3 0 (loneM 3 w a b 0 0 0) [0, 0, 0] →
  C 3 1 (loneM 3 w a b 2 0 0) [0, 0, 0] →
  (∀ l : Nat, l ≤ w → C 3 (2 + w - l) (loneM 3 w a b 3 l 0) [0, 0, 0]) →
  C 3 (3 + w) (loneM 3 w a b 5 0 0) [0, 0, 0] → C k i M ws
theorem Lone.h0 {a b : Int} {w : Nat} : Lone a b w 1 0 (loneM 1 w a b 0 0 0) [0, 0, 0] := fun _ t _ _ _ _ _ _ _ _ _ _ => t
theorem Lone.h3 {a b : Int} {w : Nat} (l : Nat) (hl : l ≤ w) : Lone a b w 1 (1 + w - l) (loneM 1 w a b 3 l 0) [1, 0, 0] := fun _ _ t _ _ _ _ _ _ _ _ _ => t l hl
theorem Lone.w0 {a b : Int} {w : Nat} : Lone a b w 2 0 (loneM 2 w a b 0 0 0) [0, 0, 0] := fun _ _ _ t _ _ _ _ _ _ _ _ => t
theorem Lone.w1 {a b : Int} {w : Nat} : Lone a b w 2 1 (loneM 2 w a b 1 0 0) [0, 0, 0] := fun _ _ _ _ t _ _ _ _ _ _ _ => t
theorem Lone.w2 {a b : Int} {w : Nat} : Lone a b w 2 2 (loneM 2 w a b 2 0 0) [1, 0, 0] := fun _ _ _ _ _ t _ _ _ _ _ _ => t
theorem Lone.w3 {a b : Int} {w : Nat} (l : Nat) (hl : l ≤ w) : Lone a b w 2 (3 + w - l) (loneM 2 w a b 3 l 0) [1, a, 0] := fun _ _ _ _ _ _ t _ _ _ _ _ => t l hl
theorem Lone.w5 {a b : Int} {w : Nat} : Lone a b w 2 (4 + w) (loneM 2 w a b 5 0 0) [1, a, b] := fun _ _ _ _ _ _ _ t _ _ _ _ => t
theorem Lone.r0 {a b : Int} {w : Nat} : Lone a b w 3 0 (loneM 3 w a b 0 0 0) [0, 0, 0] := fun _ _ _ _ _ _ _ _ t _ _ _ => t
theorem Lone.r2 {a b : Int} {w : Nat} : Lone a b w 3 1 (loneM 3 w a b 2 0 0) [0, 0, 0] := fun _ _ _ _ _ _ _ _ _ t _ _ => t
theorem Lone.r3 {a b : Int} {w : Nat} (l : Nat) (hl : l ≤ w) : Lone a b w 3 (2 + w - l) (loneM 3 w a b 3 l 0) [0, 0, 0] := fun _ _ _ _ _ _ _ _ _ _ t _ => t l hl
theorem Lone.r5 {a b : Int} {w : Nat} : Lone a b w 3 (3 + w) (loneM 3 w a b 5 0 0) [0, 0, 0] := fun _ _ _ _ _ _ _ _ _ _ _ t => t
theorem Lone.el {a b : Int} {w : Nat} {motive : (k : Int) → (i : Nat) → (M : Mach) → (ws : List Int) → Lone a b w k i M ws → Prop}
    (h0 : motive 1 0 (loneM 1 w a b 0 0 0) [0, 0, 0] .h0)
    (h3 : ∀ (l : Nat) (hl : l ≤ w), motive 1 (1 + w - l) (loneM 1 w a b 3 l 0) [1, 0, 0] (.h3 l hl))
    (w0 : motive 2 0 (loneM 2 w a b 0 0 0) [0, 0, 0] .w0)
    (w1 : motive 2 1 (loneM 2 w a b 1 0 0) [0, 0, 0] .w1)
    (w2 : motive 2 2 (loneM 2 w a b 2 0 0) [1, 0, 0] .w2)
    (w3 : ∀ (l : Nat) (hl : l ≤ w), motive 2 (3 + w - l) (loneM 2 w a b 3 l 0) [1, a, 0] (.w3 l hl))
    (w5 : motive 2 (4 + w) (loneM 2 w a b 5 0 0) [1, a, b] .w5)
    (r0 : motive 3 0 (loneM 3 w a b 0 0 0) [0, 0, 0] .r0)
    (r2 : motive 3 1 (loneM 3 w a b 2 0 0) [0, 0, 0] .r2)
    (r3 : ∀ (l : Nat) (hl : l ≤ w), motive 3 (2 + w - l) (loneM 3 w a b 3 l 0) [0, 0, 0] (.r3 l hl))
    (r5 : motive 3 (3 + w) (loneM 3 w a b 5 0 0) [0, 0, 0] .r5)
    {k : Int} {i : Nat} {M : Mach} {ws : List Int} (t : Lone a b w k i M ws) : motive k i M ws t :=
  t (fun k i M ws => ∀ h : Lone a b w k i M ws, motive k i M ws h) (fun _ => h0) (fun l hl _ => h3 l hl) (fun _ => w0) (fun _ => w1) (fun _ => w2) (fun l hl _ => w3 l hl) (fun _ => w5) (fun _ => r0) (fun _ => r2) (fun l hl _ => r3 l hl) (fun _ => r5) t

def loneAll (k : Int) (w : Nat) : Nat := (if k = 1 then 2 else if k = 2 then 5 else 4) + w

theorem Lone.start {a b : Int} {w : Nat} {k : Int} (hk : k = 1 ∨ k = 2 ∨ k = 3) : Lone a b w k 0 (loneM k w a b 0 0 0) [0, 0, 0] := by
  rcases hk with rfl | rfl | rfl
  · exact .h0
  · exact .w0
  · exact .r0
theorem Lone.lt {a b : Int} {w : Nat} {k : Int} {i : Nat} {M : Mach} {ws : List Int} (h : Lone a b w k i M ws) : i < loneAll k w := by
  cases h using Lone.el <;> simp [loneAll] <;> omega
theorem Lone.ok {a b : Int} {w : Nat} (hw : w ≤ 100) {k : Int} {i : Nat} {M : Mach} {ws : List Int} (h : Lone a b w k i M ws) : M.ok 3 ∧ M.tries = 0 ∧ M.done = false := by
  cases h using Lone.el <;> refine ⟨⟨?_, ?_, ?_, ?_, ?_, ?_, ?_, ?_, ?_, ?_, ?_⟩, rfl, rfl⟩ <;> simp [loneM] <;> omega
theorem Lone.step {a b : Int} {w : Nat} {k : Int} {i : Nat} {M : Mach} {ws : List Int} (h : Lone a b w k i M ws) :
    (M.step ws).1.tries = 0 ∧ (((M.step ws).1.done = true ∧ i + 1 = loneAll k w) ∨ ((M.step ws).1.done = false ∧ Lone a b w k (i + 1) (M.step ws).1 (M.step ws).2)) := by
  cases h using Lone.el with
  | h0 => exact ⟨rfl, .inr ⟨rfl, by have := Lone.h3 (a := a) (b := b) w (Nat.le_refl w); simpa [Mach.step, Mach.stepH, loneM, Nat.add_comm] using this⟩⟩
  | h3 l hl =>
    by_cases h0 : l = 0
    · subst h0; exact ⟨rfl, .inl ⟨rfl, by simp [loneAll]; omega⟩⟩
    · have e : (loneM 1 w a b 3 l 0).step [1, 0, 0] = (loneM 1 w a b 3 ((l - 1 : Nat) : Int) 0, [1, 0, 0]) := by
        have h2 : (l : Int) - 1 = ((l - 1 : Nat) : Int) := by omega
        simp [Mach.step, Mach.stepH, loneM, Mach.toil, h2, h0]
      rw [e]
      refine ⟨rfl, .inr ⟨rfl, ?_⟩⟩
      have := Lone.h3 (a := a) (b := b) (w := w) (l - 1) (by omega)
      rwa [show 1 + w - (l - 1) = 1 + w - l + 1 by omega] at this
  | w0 => exact ⟨rfl, .inr ⟨rfl, .w1⟩⟩
  | w1 => exact ⟨rfl, .inr ⟨rfl, .w2⟩⟩
  | w2 => exact ⟨rfl, .inr ⟨rfl, by have := Lone.w3 (a := a) (b := b) w (Nat.le_refl w); simpa [Mach.step, Mach.stepW, loneM, Nat.add_comm] using this⟩⟩
  | w3 l hl =>
    by_cases h0 : l = 0
    · subst h0; exact ⟨rfl, .inr ⟨rfl, by have := Lone.w5 (a := a) (b := b) (w := w); rwa [show 4 + w = 3 + w - 0 + 1 by omega] at this⟩⟩
    · have e : (loneM 2 w a b 3 l 0).step [1, a, 0] = (loneM 2 w a b 3 ((l - 1 : Nat) : Int) 0, [1, a, 0]) := by
        have h2 : (l : Int) - 1 = ((l - 1 : Nat) : Int) := by omega
        simp [Mach.step, Mach.stepW, loneM, Mach.toil, h2, h0]
      rw [e]
      refine ⟨rfl, .inr ⟨rfl, ?_⟩⟩
      have := Lone.w3 (a := a) (b := b) (w := w) (l - 1) (by omega)
      rwa [show 3 + w - (l - 1) = 3 + w - l + 1 by omega] at this
  | w5 => exact ⟨rfl, .inl ⟨rfl, by simp [loneAll]; omega⟩⟩
  | r0 => exact ⟨rfl, .inr ⟨rfl, .r2⟩⟩
  | r2 => exact ⟨rfl, .inr ⟨rfl, by have := Lone.r3 (a := a) (b := b) w (Nat.le_refl w); simpa [Mach.step, Mach.stepR, loneM, Nat.add_comm] using this⟩⟩
  | r3 l hl =>
    by_cases h0 : l = 0
    · subst h0; exact ⟨rfl, .inr ⟨rfl, by have := Lone.r5 (a := a) (b := b) (w := w); rwa [show 3 + w = 2 + w - 0 + 1 by omega] at this⟩⟩
    · have e : (loneM 3 w a b 3 l 0).step [0, 0, 0] = (loneM 3 w a b 3 ((l - 1 : Nat) : Int) 0, [0, 0, 0]) := by
        have h2 : (l : Int) - 1 = ((l - 1 : Nat) : Int) := by omega
        simp [Mach.step, Mach.stepR, loneM, Mach.toil, h2, h0]
      rw [e]
      refine ⟨rfl, .inr ⟨rfl, ?_⟩⟩
      have := Lone.r3 (a := a) (b := b) (w := w) (l - 1) (by omega)
      rwa [show 2 + w - (l - 1) = 2 + w - l + 1 by omega] at this
  | r5 => exact ⟨rfl, .inl ⟨rfl, by simp [loneAll]; omega⟩⟩
end Go.Proofs.Ytkgeapmafpeapaa
