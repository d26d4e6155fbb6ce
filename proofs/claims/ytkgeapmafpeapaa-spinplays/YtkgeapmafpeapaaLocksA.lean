/-
  Holders of one lock, a step at a time: what a law that looks at the lock ahead of a step and behind it sees; who holds it, or is stepped alone, is done behind its work.
-/
import Derived.Test.YtkgeapmafpeapaaFairA
namespace Go.Proofs.Ytkgeapmafpeapaa
open Go.RowKit

/-- What a walk is told of a slice of integers that came in. -/
def Picks (w : World) (a : Option Addr) (len : Nat) : Prop :=
  len ≤ maxLen ∧ ∀ i, i < len → ∃ (b off : Nat) (x : Int), a = some ⟨b, off, none⟩ ∧ b < w.heap.size ∧ w.cell? ⟨b, off + i, none⟩ = some (.int .i64 x) ∧ -9223372036854775808 ≤ x ∧ x ≤ 9223372036854775807

theorem addr_add (b off i : Nat) : (⟨b, off, none⟩ : Addr).add i = ⟨b, off + i, none⟩ := by unfold Addr.add; split <;> simp_all
theorem spot_none {w : World} {b off : Nat} {sp : Option Nat} {v : Value} (h : w.cell? ⟨b, off, sp⟩ = some v) : sp = none := by
  unfold World.cell? at h
  cases sp with
  | none => rfl
  | some s => cases hq : w.heap[b]? with
    | none => simp [hq] at h
    | some o => cases o <;> simp [hq] at h

theorem picked_mem {ms : List Mach} (h : opn ms ≠ []) (x : Int) : picked ms x ∈ opn ms := by
  have hl : 0 < (opn ms).length := List.length_pos_iff.2 h
  have hm := Nat.mod_lt (pickAt x).toNat hl
  show (opn ms).getD ((pickAt x).toNat % (opn ms).length) 0 ∈ opn ms
  rw [List.getD_eq_getElem?_getD, List.getElem?_eq_getElem hm]
  exact List.getElem_mem hm
theorem pick_x (r b c q n : Nat) (ws : List Int) (st x : Int) (ms : List Mach) (w : World) (hR : Run w r b c q n ws st ms) (x0 : -9223372036854775808 ≤ x) (x1 : x ≤ 9223372036854775807) :
    Calls Try.prog 13 #[.pointer (some ⟨r, 0, none⟩), .int .i64 x] w fun e w' => e = .returned (.tuple #[.int .i64 (picked ms x : Nat), .bool (!(opn ms).isEmpty)]) ∧ Below w.heap.size w w' := pick_any r b c q n ws st x ms w hR x0 x1
theorem wf_bounds {x : Int} (h : (Lit.int .i64 x).wf = true) : -9223372036854775808 ≤ x ∧ x ≤ 9223372036854775807 := by
  simp [Lit.wf] at h
  exact h
theorem stepTold_open {ms : List Mach} {ws : List Int} {j : Nat} {M : Mach} (hj : ms[j]? = some M) (hd : M.done = false) : stepTold ms ws j = (M.step ws).1.told := by
  unfold stepTold; rw [hj]; simp [hd]

/-- The lock ahead of a step and behind it, and whether the job is done by it. -/
theorem lock_step {a W : Nat} {S : State} (h : HInv a W S) {k : Nat} {M : Mach} (hk : S.1[k]? = some M) (hd : M.done = false) :
    (S.2.getD a 0 = 0 ∧ (stepAt S.1 S.2 k).2.getD a 0 = (k : Int) + 1 ∧ (M.step S.2).1.done = false) ∨
    (S.2.getD a 0 ≠ 0 ∧ (stepAt S.1 S.2 k).2.getD a 0 = S.2.getD a 0 ∧ (M.step S.2).1.done = false) ∨
    (S.2.getD a 0 = (k : Int) + 1 ∧ (stepAt S.1 S.2 k).2.getD a 0 = 0 ∧ (M.step S.2).1.done = true) := by
  have hl := (List.getElem?_eq_some_iff.1 hk).1
  have key : ∀ N ws', stepAt S.1 S.2 k = (S.1.set k N, ws') → (M.step S.2).1 = N := by
    intro N ws' e
    rw [stepAt_open hk hd] at e
    have e1 := congrArg (fun x : List Mach × List Int => x.1[k]?) e
    simpa [hl] using e1
  cases h.cases hk hd using HStep.el with
  | take hL e => exact .inl ⟨hL, by rw [e]; exact getD_set_self _ _ _ h.la, by rw [key _ _ e]; exact hd⟩
  | wait h1 hL e => exact .inr (.inl ⟨h1, by rw [e], by rw [key _ _ e]; exact hd⟩)
  | toil hL hn hl' e => exact .inr (.inl ⟨by omega, by rw [e], by rw [key _ _ e]; exact hd⟩)
  | free hL hn hl' e => exact .inr (.inr ⟨hL, by rw [e]; exact getD_set_self _ _ _ h.la, by rw [key _ _ e]⟩)

/-- Who held the lock, so many steps on. -/
def Fin (a W : Nat) (S : State) (k j : Nat) : Prop :=
  (S.2.getD a 0 = 0 ∧ doneAt S.1 k = true) ∨ (S.2.getD a 0 = (k : Int) + 1 ∧ ∃ M, S.1[k]? = some M ∧ M.done = false ∧ M.left + j ≤ W)
theorem Fin.start {a W : Nat} {S : State} (h : HInv a W S) {k : Nat} (hL : S.2.getD a 0 = (k : Int) + 1) : Fin a W S k 0 := by
  rcases h.lock with g | ⟨i, X, g1, g2, g3⟩
  · omega
  · obtain rfl : i = k := by omega
    obtain ⟨-, -, -, -, h5⟩ := h.each i X g1
    rcases h5 g2 with ⟨_, hL'⟩ | ⟨_, _, l0, l1⟩
    · exact absurd g3 hL'
    · exact .inr ⟨g3, X, g1, g2, by omega⟩
theorem stepAt_out {ms : List Mach} {ws : List Int} {k : Nat} (h : doneAt ms k = true) : stepAt ms ws k = (ms, ws) := by
  unfold stepAt
  unfold doneAt at h
  cases e : ms[k]? with
  | none => rfl
  | some M => rw [e] at h; simp only [] at h ⊢; rw [if_pos h]
theorem Fin.step {a W : Nat} {S : State} (h : HInv a W S) {k j : Nat} (hF : Fin a W S k j) : HInv a W (stepAt S.1 S.2 k) ∧ Fin a W (stepAt S.1 S.2 k) k (j + 1) := by
  rcases hF with ⟨g1, g2⟩ | ⟨g1, M, g2, g3, g4⟩
  · rw [stepAt_out g2]; exact ⟨h, .inl ⟨g1, g2⟩⟩
  · refine ⟨h.step g2 g3, ?_⟩
    have hl := (List.getElem?_eq_some_iff.1 g2).1
    cases h.cases g2 g3 using HStep.el with
    | take hL e => omega
    | wait h1 hL e => exact absurd g1 hL
    | toil hL hn hl' e => rw [e]; exact .inr ⟨g1, _, get_set g2 _, g3, by simp [Mach.toil]; omega⟩
    | free hL hn hl' e => rw [e]; exact .inl ⟨getD_set_self _ _ _ h.la, by simp [doneAt, hl]⟩
theorem Fin.free {a W : Nat} {S : State} (h : HInv a W S) {k : Nat} (hF : Fin a W S k (W + 1)) : S.2.getD a 0 = 0 := by
  rcases hF with ⟨g1, _⟩ | ⟨g1, M, g2, g3, g4⟩
  · exact g1
  · obtain ⟨-, -, -, -, h5⟩ := h.each k M g2
    rcases h5 g3 with ⟨_, hL'⟩ | ⟨_, _, l0, l1⟩
    · exact absurd g1 hL'
    · omega

/-- Who is stepped alone, so many steps on. -/
def Aln (a W : Nat) (S : State) (k j : Nat) : Prop :=
  (j = 0 ∧ S.2.getD a 0 = 0 ∧ ∃ M, S.1[k]? = some M ∧ M.done = false) ∨ (1 ≤ j ∧ S.2.getD a 0 = (k : Int) + 1 ∧ ∃ M, S.1[k]? = some M ∧ M.done = false ∧ M.left + j = W + 1)
theorem Aln.step {a W : Nat} {S : State} (h : HInv a W S) {k j : Nat} (hj : j ≤ W) (hF : Aln a W S k j) : HInv a W (stepAt S.1 S.2 k) ∧ Aln a W (stepAt S.1 S.2 k) k (j + 1) := by
  rcases hF with ⟨rfl, g1, M, g2, g3⟩ | ⟨g0, g1, M, g2, g3, g4⟩
  · refine ⟨h.step g2 g3, ?_⟩
    cases h.cases g2 g3 using HStep.el with
    | take hL e => rw [e]; exact .inr ⟨by omega, getD_set_self _ _ _ h.la, _, get_set g2 _, g3, by simp⟩
    | wait h1 hL e => exact absurd g1 h1
    | toil hL hn hl' e => omega
    | free hL hn hl' e => omega
  · refine ⟨h.step g2 g3, ?_⟩
    cases h.cases g2 g3 using HStep.el with
    | take hL e => omega
    | wait h1 hL e => exact absurd g1 hL
    | toil hL hn hl' e => rw [e]; exact .inr ⟨by omega, g1, _, get_set g2 _, g3, by simp [Mach.toil]; omega⟩
    | free hL hn hl' e => omega
theorem Aln.last {a W : Nat} {S : State} (h : HInv a W S) {k : Nat} (hF : Aln a W S k (W + 1)) : ∃ M, S.1[k]? = some M ∧ M.done = false ∧ (M.step S.2).1.done = true ∧ (stepAt S.1 S.2 k).2.getD a 0 = 0 := by
  rcases hF with ⟨h0, _⟩ | ⟨g0, g1, M, g2, g3, g4⟩
  · omega
  · refine ⟨M, g2, g3, ?_⟩
    have hl := (List.getElem?_eq_some_iff.1 g2).1
    rcases lock_step h g2 g3 with ⟨e, _⟩ | ⟨e1, e2, e3⟩ | ⟨_, e2, e3⟩
    · omega
    · exfalso
      cases h.cases g2 g3 using HStep.el with
      | take hL e => omega
      | wait h1 hL e => exact absurd g1 hL
      | toil hL hn hl' e => omega
      | free hL hn hl' e => rw [e, getD_set_self _ _ _ h.la] at e2; omega
    · exact ⟨e3, e2⟩
end Go.Proofs.Ytkgeapmafpeapaa
