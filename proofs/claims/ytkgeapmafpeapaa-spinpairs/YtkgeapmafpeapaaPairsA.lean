/-
  Writers and readers of one pair: what a step of each is, as a list of cases.
-/
import Derived.Test.YtkgeapmafpeapaaLocksA
namespace Go.Proofs.Ytkgeapmafpeapaa
open Go.RowKit

/-- The steps of a writer and of a reader of the pair at 1, 2 with the count at 0. -/
def PStep (W : Int) (S : State) (k : Nat) (M : Mach) : Prop := ∀ C : Prop,
  (M.kind = 2 → M.next = 0 → (S.2.getD 0 0).tmod 2 = 0 → stepAt S.1 S.2 k = (S.1.set k { M with count := S.2.getD 0 0, next := 1 }, S.2) → C) →
  (M.kind = 2 → M.next = 0 → ¬ (S.2.getD 0 0).tmod 2 = 0 → stepAt S.1 S.2 k = (S.1.set k { M with count := S.2.getD 0 0, tries := M.tries + 1, next := 0 }, S.2) → C) →
  (M.kind = 2 → M.next = 1 → S.2.getD 0 0 = M.count → stepAt S.1 S.2 k = (S.1.set k { M with next := 2 }, S.2.set 0 (IntKind.i64.wrap (M.count + 1))) → C) →
  (M.kind = 2 → M.next = 1 → ¬ S.2.getD 0 0 = M.count → stepAt S.1 S.2 k = (S.1.set k M.again, S.2) → C) →
  (M.kind = 2 → M.next = 2 → stepAt S.1 S.2 k = (S.1.set k { M with next := 3, left := W }, S.2.set 1 M.A) → C) →
  (M.kind = 2 → M.next = 3 → ¬ M.left = 0 → stepAt S.1 S.2 k = (S.1.set k M.toil, S.2) → C) →
  (M.kind = 2 → M.next = 3 → M.left = 0 → stepAt S.1 S.2 k = (S.1.set k { M with next := 5 }, S.2.set 2 M.B) → C) →
  (M.kind = 2 → M.next = 5 → stepAt S.1 S.2 k = (S.1.set k { M with done := true }, S.2.set 0 (IntKind.i64.wrap (M.count + 2))) → C) →
  (M.kind = 3 → M.next = 0 → (S.2.getD 0 0).tmod 2 = 0 → stepAt S.1 S.2 k = (S.1.set k { M with count := S.2.getD 0 0, next := 2 }, S.2) → C) →
  (M.kind = 3 → M.next = 0 → ¬ (S.2.getD 0 0).tmod 2 = 0 → stepAt S.1 S.2 k = (S.1.set k { M with count := S.2.getD 0 0, tries := M.tries + 1, next := 0 }, S.2) → C) →
  (M.kind = 3 → M.next = 2 → stepAt S.1 S.2 k = (S.1.set k { M with a := S.2.getD 1 0, next := 3, left := W }, S.2) → C) →
  (M.kind = 3 → M.next = 3 → ¬ M.left = 0 → stepAt S.1 S.2 k = (S.1.set k M.toil, S.2) → C) →
  (M.kind = 3 → M.next = 3 → M.left = 0 → stepAt S.1 S.2 k = (S.1.set k { M with b := S.2.getD 2 0, next := 5 }, S.2) → C) →
  (M.kind = 3 → M.next = 5 → S.2.getD 0 0 = M.count → stepAt S.1 S.2 k = (S.1.set k { M with done := true, sA := M.a, sB := M.b }, S.2) → C) →
  (M.kind = 3 → M.next = 5 → ¬ S.2.getD 0 0 = M.count → stepAt S.1 S.2 k = (S.1.set k M.again, S.2) → C) → C
theorem PStep.wl {W : Int} {S : State} {k : Nat} {M : Mach} (hk : M.kind = 2) (hn : M.next = 0) (hc : (S.2.getD 0 0).tmod 2 = 0) (e : stepAt S.1 S.2 k = (S.1.set k { M with count := S.2.getD 0 0, next := 1 }, S.2)) : PStep W S k M := fun _ t _ _ _ _ _ _ _ _ _ _ _ _ _ _ => t hk hn hc e
theorem PStep.wo {W : Int} {S : State} {k : Nat} {M : Mach} (hk : M.kind = 2) (hn : M.next = 0) (hc : ¬ (S.2.getD 0 0).tmod 2 = 0) (e : stepAt S.1 S.2 k = (S.1.set k { M with count := S.2.getD 0 0, tries := M.tries + 1, next := 0 }, S.2)) : PStep W S k M := fun _ _ t _ _ _ _ _ _ _ _ _ _ _ _ _ => t hk hn hc e
theorem PStep.wt {W : Int} {S : State} {k : Nat} {M : Mach} (hk : M.kind = 2) (hn : M.next = 1) (hc : S.2.getD 0 0 = M.count) (e : stepAt S.1 S.2 k = (S.1.set k { M with next := 2 }, S.2.set 0 (IntKind.i64.wrap (M.count + 1)))) : PStep W S k M := fun _ _ _ t _ _ _ _ _ _ _ _ _ _ _ _ => t hk hn hc e
theorem PStep.wf {W : Int} {S : State} {k : Nat} {M : Mach} (hk : M.kind = 2) (hn : M.next = 1) (hc : ¬ S.2.getD 0 0 = M.count) (e : stepAt S.1 S.2 k = (S.1.set k M.again, S.2)) : PStep W S k M := fun _ _ _ _ t _ _ _ _ _ _ _ _ _ _ _ => t hk hn hc e
theorem PStep.wa {W : Int} {S : State} {k : Nat} {M : Mach} (hk : M.kind = 2) (hn : M.next = 2) (e : stepAt S.1 S.2 k = (S.1.set k { M with next := 3, left := W }, S.2.set 1 M.A)) : PStep W S k M := fun _ _ _ _ _ t _ _ _ _ _ _ _ _ _ _ => t hk hn e
theorem PStep.ww {W : Int} {S : State} {k : Nat} {M : Mach} (hk : M.kind = 2) (hn : M.next = 3) (hl : ¬ M.left = 0) (e : stepAt S.1 S.2 k = (S.1.set k M.toil, S.2)) : PStep W S k M := fun _ _ _ _ _ _ t _ _ _ _ _ _ _ _ _ => t hk hn hl e
theorem PStep.wb {W : Int} {S : State} {k : Nat} {M : Mach} (hk : M.kind = 2) (hn : M.next = 3) (hl : M.left = 0) (e : stepAt S.1 S.2 k = (S.1.set k { M with next := 5 }, S.2.set 2 M.B)) : PStep W S k M := fun _ _ _ _ _ _ _ t _ _ _ _ _ _ _ _ => t hk hn hl e
theorem PStep.wd {W : Int} {S : State} {k : Nat} {M : Mach} (hk : M.kind = 2) (hn : M.next = 5) (e : stepAt S.1 S.2 k = (S.1.set k { M with done := true }, S.2.set 0 (IntKind.i64.wrap (M.count + 2)))) : PStep W S k M := fun _ _ _ _ _ _ _ _ t _ _ _ _ _ _ _ => t hk hn e
theorem PStep.rl {W : Int} {S : State} {k : Nat} {M : Mach} (hk : M.kind = 3) (hn : M.next = 0) (hc : (S.2.getD 0 0).tmod 2 = 0) (e : stepAt S.1 S.2 k = (S.1.set k { M with count := S.2.getD 0 0, next := 2 }, S.2)) : PStep W S k M := fun _ _ _ _ _ _ _ _ _ t _ _ _ _ _ _ => t hk hn hc e
theorem PStep.ro {W : Int} {S : State} {k : Nat} {M : Mach} (hk : M.kind = 3) (hn : M.next = 0) (hc : ¬ (S.2.getD 0 0).tmod 2 = 0) (e : stepAt S.1 S.2 k = (S.1.set k { M with count := S.2.getD 0 0, tries := M.tries + 1, next := 0 }, S.2)) : PStep W S k M := fun _ _ _ _ _ _ _ _ _ _ t _ _ _ _ _ => t hk hn hc e
theorem PStep.ra {W : Int} {S : State} {k : Nat} {M : Mach} (hk : M.kind = 3) (hn : M.next = 2) (e : stepAt S.1 S.2 k = (S.1.set k { M with a := S.2.getD 1 0, next := 3, left := W }, S.2)) : PStep W S k M := fun _ _ _ _ _ _ _ _ _ _ _ t _ _ _ _ => t hk hn e
theorem PStep.rw {W : Int} {S : State} {k : Nat} {M : Mach} (hk : M.kind = 3) (hn : M.next = 3) (hl : ¬ M.left = 0) (e : stepAt S.1 S.2 k = (S.1.set k M.toil, S.2)) : PStep W S k M := fun _ _ _ _ _ _ _ _ _ _ _ _ t _ _ _ => t hk hn hl e
theorem PStep.rb {W : Int} {S : State} {k : Nat} {M : Mach} (hk : M.kind = 3) (hn : M.next = 3) (hl : M.left = 0) (e : stepAt S.1 S.2 k = (S.1.set k { M with b := S.2.getD 2 0, next := 5 }, S.2)) : PStep W S k M := fun _ _ _ _ _ _ _ _ _ _ _ _ _ t _ _ => t hk hn hl e
theorem PStep.rd {W : Int} {S : State} {k : Nat} {M : Mach} (hk : M.kind = 3) (hn : M.next = 5) (hc : S.2.getD 0 0 = M.count) (e : stepAt S.1 S.2 k = (S.1.set k { M with done := true, sA := M.a, sB := M.b }, S.2)) : PStep W S k M := fun _ _ _ _ _ _ _ _ _ _ _ _ _ _ t _ => t hk hn hc e
theorem PStep.rf {W : Int} {S : State} {k : Nat} {M : Mach} (hk : M.kind = 3) (hn : M.next = 5) (hc : ¬ S.2.getD 0 0 = M.count) (e : stepAt S.1 S.2 k = (S.1.set k M.again, S.2)) : PStep W S k M := fun _ _ _ _ _ _ _ _ _ _ _ _ _ _ _ t => t hk hn hc e
theorem PStep.el {W : Int} {S : State} {k : Nat} {M : Mach} {motive : PStep W S k M → Prop}
    (wl : ∀ (hk : M.kind = 2) (hn : M.next = 0) (hc : (S.2.getD 0 0).tmod 2 = 0) (e : stepAt S.1 S.2 k = (S.1.set k { M with count := S.2.getD 0 0, next := 1 }, S.2)), motive (.wl hk hn hc e))
    (wo : ∀ (hk : M.kind = 2) (hn : M.next = 0) (hc : ¬ (S.2.getD 0 0).tmod 2 = 0) (e : stepAt S.1 S.2 k = (S.1.set k { M with count := S.2.getD 0 0, tries := M.tries + 1, next := 0 }, S.2)), motive (.wo hk hn hc e))
    (wt : ∀ (hk : M.kind = 2) (hn : M.next = 1) (hc : S.2.getD 0 0 = M.count) (e : stepAt S.1 S.2 k = (S.1.set k { M with next := 2 }, S.2.set 0 (IntKind.i64.wrap (M.count + 1)))), motive (.wt hk hn hc e))
    (wf : ∀ (hk : M.kind = 2) (hn : M.next = 1) (hc : ¬ S.2.getD 0 0 = M.count) (e : stepAt S.1 S.2 k = (S.1.set k M.again, S.2)), motive (.wf hk hn hc e))
    (wa : ∀ (hk : M.kind = 2) (hn : M.next = 2) (e : stepAt S.1 S.2 k = (S.1.set k { M with next := 3, left := W }, S.2.set 1 M.A)), motive (.wa hk hn e))
    (ww : ∀ (hk : M.kind = 2) (hn : M.next = 3) (hl : ¬ M.left = 0) (e : stepAt S.1 S.2 k = (S.1.set k M.toil, S.2)), motive (.ww hk hn hl e))
    (wb : ∀ (hk : M.kind = 2) (hn : M.next = 3) (hl : M.left = 0) (e : stepAt S.1 S.2 k = (S.1.set k { M with next := 5 }, S.2.set 2 M.B)), motive (.wb hk hn hl e))
    (wd : ∀ (hk : M.kind = 2) (hn : M.next = 5) (e : stepAt S.1 S.2 k = (S.1.set k { M with done := true }, S.2.set 0 (IntKind.i64.wrap (M.count + 2)))), motive (.wd hk hn e))
    (rl : ∀ (hk : M.kind = 3) (hn : M.next = 0) (hc : (S.2.getD 0 0).tmod 2 = 0) (e : stepAt S.1 S.2 k = (S.1.set k { M with count := S.2.getD 0 0, next := 2 }, S.2)), motive (.rl hk hn hc e))
    (ro : ∀ (hk : M.kind = 3) (hn : M.next = 0) (hc : ¬ (S.2.getD 0 0).tmod 2 = 0) (e : stepAt S.1 S.2 k = (S.1.set k { M with count := S.2.getD 0 0, tries := M.tries + 1, next := 0 }, S.2)), motive (.ro hk hn hc e))
    (ra : ∀ (hk : M.kind = 3) (hn : M.next = 2) (e : stepAt S.1 S.2 k = (S.1.set k { M with a := S.2.getD 1 0, next := 3, left := W }, S.2)), motive (.ra hk hn e))
    (rw : ∀ (hk : M.kind = 3) (hn : M.next = 3) (hl : ¬ M.left = 0) (e : stepAt S.1 S.2 k = (S.1.set k M.toil, S.2)), motive (.rw hk hn hl e))
    (rb : ∀ (hk : M.kind = 3) (hn : M.next = 3) (hl : M.left = 0) (e : stepAt S.1 S.2 k = (S.1.set k { M with b := S.2.getD 2 0, next := 5 }, S.2)), motive (.rb hk hn hl e))
    (rd : ∀ (hk : M.kind = 3) (hn : M.next = 5) (hc : S.2.getD 0 0 = M.count) (e : stepAt S.1 S.2 k = (S.1.set k { M with done := true, sA := M.a, sB := M.b }, S.2)), motive (.rd hk hn hc e))
    (rf : ∀ (hk : M.kind = 3) (hn : M.next = 5) (hc : ¬ S.2.getD 0 0 = M.count) (e : stepAt S.1 S.2 k = (S.1.set k M.again, S.2)), motive (.rf hk hn hc e))
    (t : PStep W S k M) : motive t :=
  t (motive t) (fun hk hn hc e => wl hk hn hc e) (fun hk hn hc e => wo hk hn hc e) (fun hk hn hc e => wt hk hn hc e) (fun hk hn hc e => wf hk hn hc e) (fun hk hn e => wa hk hn e) (fun hk hn hl e => ww hk hn hl e) (fun hk hn hl e => wb hk hn hl e) (fun hk hn e => wd hk hn e) (fun hk hn hc e => rl hk hn hc e) (fun hk hn hc e => ro hk hn hc e) (fun hk hn e => ra hk hn e) (fun hk hn hl e => rw hk hn hl e) (fun hk hn hl e => rb hk hn hl e) (fun hk hn hc e => rd hk hn hc e) (fun hk hn hc e => rf hk hn hc e)

theorem pcases {W : Int} {S : State} {k : Nat} {M : Mach} (hk : S.1[k]? = some M) (hd : M.done = false) (h0 : M.at_ = 0) (hw : M.work = W)
    (hq : (M.kind = 2 ∧ (M.next = 0 ∨ M.next = 1 ∨ M.next = 2 ∨ M.next = 3 ∨ M.next = 5)) ∨ (M.kind = 3 ∧ (M.next = 0 ∨ M.next = 2 ∨ M.next = 3 ∨ M.next = 5))) : PStep W S k M := by
  have e := stepAt_open (ws := S.2) hk hd
  rcases hq with ⟨h2, hn⟩ | ⟨h3, hn⟩
  · have e0 : M.step S.2 = M.stepW S.2 := by unfold Mach.step; rw [if_neg (by omega), if_pos h2]
    rw [e0] at e
    unfold Mach.stepW at e
    rw [h0, hw] at e
    rcases hn with n | n | n | n | n
    · rw [if_pos n] at e
      by_cases hc : (S.2.getD 0 0).tmod 2 = 0
      · rw [if_pos hc] at e; exact .wl h2 n hc (by rw [e]; simp only [h0, hw])
      · rw [if_neg hc] at e; exact .wo h2 n hc (by rw [e]; simp only [h0, hw])
    · rw [if_neg (by omega), if_pos n] at e
      by_cases hc : S.2.getD 0 0 = M.count
      · rw [if_pos hc] at e; exact .wt h2 n hc (by rw [e]; simp only [h0, hw])
      · rw [if_neg hc] at e; exact .wf h2 n hc e
    · rw [if_neg (by omega), if_neg (by omega), if_pos n] at e; exact .wa h2 n (by rw [e]; simp only [h0, hw])
    · rw [if_neg (by omega), if_neg (by omega), if_neg (by omega), if_neg (by omega)] at e
      by_cases hl : M.left = 0
      · rw [if_neg (fun g => g.2 hl)] at e; exact .wb h2 n hl (by rw [e]; simp only [h0, hw])
      · rw [if_pos ⟨n, hl⟩] at e; exact .ww h2 n hl e
    · rw [if_neg (by omega), if_neg (by omega), if_neg (by omega), if_pos n] at e; exact .wd h2 n (by rw [e]; simp only [h0, hw])
  · have e0 : M.step S.2 = M.stepR S.2 := by unfold Mach.step; rw [if_neg (by omega), if_neg (by omega)]
    rw [e0] at e
    unfold Mach.stepR at e
    rw [h0, hw] at e
    rcases hn with n | n | n | n
    · rw [if_pos n] at e
      by_cases hc : (S.2.getD 0 0).tmod 2 = 0
      · rw [if_pos hc] at e; exact .rl h3 n hc (by rw [e]; simp only [h0, hw])
      · rw [if_neg hc] at e; exact .ro h3 n hc (by rw [e]; simp only [h0, hw])
    · rw [if_neg (by omega), if_pos n] at e; exact .ra h3 n (by rw [e]; simp only [h0, hw])
    · rw [if_neg (by omega), if_neg (by omega), if_neg (by omega)] at e
      by_cases hl : M.left = 0
      · rw [if_neg (fun g => g.2 hl)] at e; exact .rb h3 n hl (by rw [e]; simp only [h0, hw])
      · rw [if_pos ⟨n, hl⟩] at e; exact .rw h3 n hl e
    · rw [if_neg (by omega), if_neg (by omega), if_pos n] at e
      by_cases hc : S.2.getD 0 0 = M.count
      · rw [if_pos hc] at e; exact .rd h3 n hc (by rw [e]; simp only [h0, hw])
      · rw [if_neg hc] at e; exact .rf h3 n hc e
end Go.Proofs.Ytkgeapmafpeapaa
