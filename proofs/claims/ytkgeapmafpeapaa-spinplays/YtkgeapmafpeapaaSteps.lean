/-
  A run's Step at any job, told as a function of the machines and the words; what holds of machines at every time is kept.
-/
import Derived.Test.YtkgeapmafpeapaaKnown
namespace Go.Proofs.Ytkgeapmafpeapaa
open Go.RowKit

theorem Mach.ok.next {n : Nat} {M : Mach} (h : M.ok n) (N : Mach) (hk : N.kind = M.kind) (ha : N.at_ = M.at_) (hw : N.work = M.work) (l0 : 0 ≤ N.left) (l1 : N.left ≤ 100) (t0 : 0 ≤ N.tries)
    (n1 : N.kind = 1 → N.next = 0 ∨ N.next = 3 ∨ N.next = 5) (n2 : N.kind = 2 → N.next = 0 ∨ N.next = 1 ∨ N.next = 2 ∨ N.next = 3 ∨ N.next = 4 ∨ N.next = 5) (n3 : N.kind = 3 → N.next = 0 ∨ N.next = 2 ∨ N.next = 3 ∨ N.next = 4 ∨ N.next = 5) : N.ok n :=
  ⟨by rw [hk]; exact h.kind, by rw [ha]; exact h.at1, by rw [hk, ha]; exact h.at3, by rw [hw]; exact h.w0, by rw [hw]; exact h.w1, l0, l1, t0, n1, n2, n3⟩

theorem Mach.ok.step {n : Nat} {M : Mach} (h : M.ok n) (ws : List Int) : (M.step ws).1.ok n ∧ (M.step ws).1.tries ≤ M.tries + 1 := by
  have l0 := h.l0
  have l1 := h.l1
  have w0 := h.w0
  have w1 := h.w1
  have t0 := h.t0
  unfold Mach.step
  split
  · rename_i hk
    unfold Mach.stepH
    repeat' split
    all_goals refine ⟨h.next _ rfl rfl rfl ?_ ?_ ?_ ?_ ?_ ?_, ?_⟩ <;> simp [Mach.again, Mach.toil] <;> (try omega)
  · split
    · rename_i hk
      unfold Mach.stepW
      repeat' split
      all_goals refine ⟨h.next _ rfl rfl rfl ?_ ?_ ?_ ?_ ?_ ?_, ?_⟩ <;> simp [Mach.again, Mach.toil] <;> (try omega)
    · have hk3 : M.kind = 3 := by rcases h.kind with h | h | h <;> omega
      unfold Mach.stepR
      repeat' split
      all_goals refine ⟨h.next _ rfl rfl rfl ?_ ?_ ?_ ?_ ?_ ?_, ?_⟩ <;> simp [Mach.again, Mach.toil] <;> (try omega)

def stepAt (ms : List Mach) (ws : List Int) (j : Nat) : List Mach × List Int :=
  match ms[j]? with
  | none => (ms, ws)
  | some M => if M.done = true then (ms, ws) else (ms.set j (M.step ws).1, (M.step ws).2)
theorem stepAt_length (ms : List Mach) (ws : List Int) (j : Nat) : (stepAt ms ws j).1.length = ms.length := by
  unfold stepAt
  split
  · rfl
  · split <;> simp
theorem stepAt_open {ms : List Mach} {ws : List Int} {j : Nat} {M : Mach} (hj : ms[j]? = some M) (hd : M.done = false) : stepAt ms ws j = (ms.set j (M.step ws).1, (M.step ws).2) := by
  unfold stepAt; rw [hj]; simp [hd]
theorem stepAt_done {ms : List Mach} {ws : List Int} {j : Nat} {M : Mach} (hj : ms[j]? = some M) (hd : M.done = true) : stepAt ms ws j = (ms, ws) := by
  unfold stepAt; rw [hj]; simp [hd]

def Good (n : Nat) (st : Int) (ms : List Mach) : Prop := ∀ (i : Nat) (M : Mach), ms[i]? = some M → M.ok n ∧ M.tries ≤ st
theorem Good.mono {n : Nat} {st st' : Int} {ms : List Mach} (h : Good n st ms) (hs : st ≤ st') : Good n st' ms := fun i M hi => ⟨(h i M hi).1, by have := (h i M hi).2; omega⟩
theorem Good.set {n : Nat} {st : Int} {ms : List Mach} (h : Good n st ms) (j : Nat) (N : Mach) (hN : N.ok n ∧ N.tries ≤ st) : Good n st (ms.set j N) := by
  intro i M hi
  rw [List.getElem?_set] at hi
  split at hi
  · split at hi
    · simp at hi; subst hi; exact hN
    · simp at hi
  · exact h i M hi
theorem Good.stepAt {n : Nat} {st : Int} {ms : List Mach} (h : Good n st ms) (ws : List Int) (j : Nat) : Good n (st + 1) (stepAt ms ws j).1 := by
  unfold Ytkgeapmafpeapaa.stepAt
  split
  · exact h.mono (by omega)
  · rename_i M hM
    split
    · exact h.mono (by omega)
    · obtain ⟨h1, h2⟩ := h j M hM
      obtain ⟨g1, g2⟩ := h1.step ws
      exact (h.mono (by omega)).set j _ ⟨g1, by omega⟩
theorem Good.machs {n : Nat} {js : List Jb} (hf : ∀ (k : Nat) (j : Jb), js[k]? = some j → j.fit n) : Good n 0 (machs js) := by
  intro i M hi
  simp [Ytkgeapmafpeapaa.machs] at hi
  obtain ⟨j, hj, rfl⟩ := hi
  obtain ⟨h0, h1, h2, h3⟩ := hf i j hj
  refine ⟨⟨?_, ?_, ?_, ?_, ?_, ?_, ?_, ?_, ?_, ?_, ?_⟩, ?_⟩ <;> simp [Jb.mach] <;> omega

/-- What a Step answers. -/
def stepTold (ms : List Mach) (ws : List Int) (j : Nat) : Value :=
  match ms[j]? with
  | none => noState
  | some M => if M.done = true then noState else (M.step ws).1.told
def stepErr (ms : List Mach) (j : Nat) : Int :=
  match ms[j]? with
  | none => 1
  | some M => if M.done = true then 16 else 0

theorem Frq.of_blw {b c q : Nat} {w w' : World} (h : Below w.heap.size w w') : Frq b c q w w' := .of_below h

theorem step_at (r b c q n j : Nat) (ws : List Int) (st : Int) (ms : List Mach) (w : World) (hR : Run w r b c q n ws st ms) (hG : Good n st ms) (s0 : 0 ≤ st) (s1 : st ≤ 1000000) :
    Calls Try.prog 11 #[.pointer (some ⟨r, 0, none⟩), .int .i64 (j : Int)] w fun e w' => e = .returned (.tuple #[stepTold ms ws j, .int .i64 (stepErr ms j)]) ∧
      (∃ st', st ≤ st' ∧ st' ≤ st + 1 ∧ Run w' r b c q n (stepAt ms ws j).2 st' (stepAt ms ws j).1 ∧ Good n st' (stepAt ms ws j).1) ∧ Frq b c q w w' := by
  cases hj : ms[j]? with
  | none =>
    have hl : ms.length ≤ j := by rw [List.getElem?_eq_none_iff] at hj; exact hj
    refine (step_past r b c q n ws st j ms w hR (by omega)).mono ?_
    rintro e w' ⟨rfl, hB⟩
    refine ⟨by simp [stepTold, stepErr, hj], ⟨st, by omega, by omega, ?_, ?_⟩, .of_below hB⟩
    · simp [stepAt, hj]; exact hR.below hB
    · simp [stepAt, hj]; exact hG
  | some M =>
    cases hd : M.done with
    | true =>
      refine (step_done r b c q n j ws st ms M w hR hj hd).mono ?_
      rintro e w' ⟨rfl, hB⟩
      refine ⟨by simp [stepTold, stepErr, hj, hd], ⟨st, by omega, by omega, ?_, ?_⟩, .of_below hB⟩
      · rw [stepAt_done hj hd]; exact hR.below hB
      · rw [stepAt_done hj hd]; exact hG
    | false =>
      obtain ⟨h1, h2⟩ := hG j M hj
      refine (step_yes r b c q n j ws st ms M w hR hj hd s0 s1 h1 (by omega)).mono ?_
      rintro e w' ⟨rfl, hR', hF⟩
      refine ⟨by simp [stepTold, stepErr, hj, hd], ⟨st + 1, by omega, by omega, ?_, hG.stepAt ws j⟩, hF⟩
      rw [stepAt_open hj hd]; exact hR'
end Go.Proofs.Ytkgeapmafpeapaa
