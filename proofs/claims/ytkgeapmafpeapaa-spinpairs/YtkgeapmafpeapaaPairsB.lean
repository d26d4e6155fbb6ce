/-
  Writers and readers of one pair: a reader that is done has read what stood together; what holds at every time is kept by each step.
-/
import Derived.Test.YtkgeapmafpeapaaPairsA
namespace Go.Proofs.Ytkgeapmafpeapaa
open Go.RowKit

def cw (ms : List Mach) : Nat := ms.countP (fun M => M.kind == 2 && !M.done)
def cr (ms : List Mach) : Nat := ms.countP (fun M => M.kind == 3 && !M.done)
theorem cnt_set (p : Mach → Bool) {ms : List Mach} {k : Nat} {M : Mach} (hk : ms[k]? = some M) (N : Mach) : (ms.set k N).countP p + (if p M = true then 1 else 0) = ms.countP p + (if p N = true then 1 else 0) := by
  obtain ⟨hl, he⟩ := List.getElem?_eq_some_iff.1 hk
  rw [List.countP_set hl, he]
  split
  · have : 0 < ms.countP p := List.countP_pos_iff.2 ⟨M, List.mem_of_getElem? hk, by assumption⟩
    omega
  · omega
theorem cw_same {ms : List Mach} {k : Nat} {M N : Mach} (hk : ms[k]? = some M) (h1 : N.kind = M.kind) (h2 : N.done = M.done) : cw (ms.set k N) = cw ms := by
  have := cnt_set (fun M => M.kind == 2 && !M.done) hk N
  simp only [h1, h2] at this
  unfold cw; omega
theorem cr_same {ms : List Mach} {k : Nat} {M N : Mach} (hk : ms[k]? = some M) (h1 : N.kind = M.kind) (h2 : N.done = M.done) : cr (ms.set k N) = cr ms := by
  have := cnt_set (fun M => M.kind == 3 && !M.done) hk N
  simp only [h1, h2] at this
  unfold cr; omega

def ins (M : Mach) : Prop := M.kind = 2 ∧ M.done = false ∧ (M.next = 2 ∨ M.next = 3 ∨ M.next = 5)

structure PW (W : Nat) (C : Int) (i : Nat) (M : Mach) : Prop where
  kind : M.kind = 2
  at_ : M.at_ = 0
  work : M.work = W
  hA : M.A = 10 + (i : Int)
  hB : M.B = 110 + (i : Int)
  l0 : 0 ≤ M.left
  l1 : M.left ≤ W
  next : M.done = false → M.next = 0 ∨ (M.next = 1 ∧ M.count % 2 = 0 ∧ 0 ≤ M.count ∧ M.count ≤ C) ∨ (M.next = 2 ∨ M.next = 3 ∨ M.next = 5)
structure PR (W : Nat) (C p q : Int) (M : Mach) : Prop where
  kind : M.kind = 3
  at_ : M.at_ = 0
  work : M.work = W
  l0 : 0 ≤ M.left
  l1 : M.left ≤ W
  next : M.done = false → M.next = 0 ∨ ((M.next = 2 ∨ M.next = 3 ∨ M.next = 5) ∧ M.count % 2 = 0 ∧ M.count ≤ C ∧ (M.count = C → (M.next = 3 → M.a = p) ∧ (M.next = 5 → M.a = p ∧ M.b = q)))
  told : M.done = true → M.sB = M.sA + 100 ∧ 0 ≤ M.sA ∧ M.sA ≤ 1000
structure Inside (W : Nat) (C p q : Int) (M : Mach) : Prop where
  ins : ins M
  cnt : C = M.count + 1
  p2 : M.next = 2 → q = p + 100
  p3 : M.next = 3 → p = M.A
  p5 : M.next = 5 → p = M.A ∧ q = M.B

structure PInv (nw n W : Nat) (S : State) : Prop where
  len : S.1.length = n
  wl : S.2.length = 3
  c0 : 0 ≤ S.2.getD 0 0
  pb : 0 ≤ S.2.getD 1 0 ∧ S.2.getD 1 0 ≤ 1000
  wr : ∀ (i : Nat) (M : Mach), S.1[i]? = some M → i < nw → PW W (S.2.getD 0 0) i M
  rd : ∀ (i : Nat) (M : Mach), S.1[i]? = some M → ¬ i < nw → PR W (S.2.getD 0 0) (S.2.getD 1 0) (S.2.getD 2 0) M
  mode : (S.2.getD 0 0 % 2 = 0 ∧ S.2.getD 2 0 = S.2.getD 1 0 + 100 ∧ S.2.getD 0 0 + 2 * cw S.1 = 2 * nw ∧ ∀ (i : Nat) (M : Mach), S.1[i]? = some M → ¬ ins M) ∨
    (S.2.getD 0 0 % 2 = 1 ∧ S.2.getD 0 0 + 2 * cw S.1 = 2 * nw + 1 ∧ ∃ (i : Nat) (M : Mach), S.1[i]? = some M ∧ Inside W (S.2.getD 0 0) (S.2.getD 1 0) (S.2.getD 2 0) M ∧ ∀ (j : Nat) (X : Mach), S.1[j]? = some X → ins X → j = i)

theorem PInv.kinds {nw n W : Nat} {S : State} (h : PInv nw n W S) {k : Nat} {M : Mach} (hk : S.1[k]? = some M) (hd : M.done = false) : PStep W S k M := by
  by_cases hn : k < nw
  · have g := h.wr k M hk hn
    refine pcases hk hd g.at_ g.work (.inl ⟨g.kind, ?_⟩)
    rcases g.next hd with h | ⟨h, _⟩ | h | h | h <;> omega
  · have g := h.rd k M hk hn
    refine pcases hk hd g.at_ g.work (.inr ⟨g.kind, ?_⟩)
    rcases g.next hd with h | ⟨h | h | h, _⟩ <;> omega
theorem PInv.isW {nw n W : Nat} {S : State} (h : PInv nw n W S) {k : Nat} {M : Mach} (hk : S.1[k]? = some M) (h2 : M.kind = 2) : k < nw := by
  rcases Nat.lt_or_ge k nw with g | g
  · exact g
  · have := (h.rd k M hk (by omega)).kind; omega
theorem PInv.isR {nw n W : Nat} {S : State} (h : PInv nw n W S) {k : Nat} {M : Mach} (hk : S.1[k]? = some M) (h3 : M.kind = 3) : ¬ k < nw := by
  intro g
  have := (h.wr k M hk g).kind; omega

/-- A step that writes no cell, and ends nothing, of a machine that stands outside. -/
theorem PInv.quiet {nw n W : Nat} {S : State} (h : PInv nw n W S) {k : Nat} {M N : Mach} (hk : S.1[k]? = some M) (hd : M.done = false) (e1 : N.kind = M.kind) (e2 : N.done = false) (hi : ins N → ins M) (hi2 : ins M → Inside W (S.2.getD 0 0) (S.2.getD 1 0) (S.2.getD 2 0) M → Inside W (S.2.getD 0 0) (S.2.getD 1 0) (S.2.getD 2 0) N)
    (hw : k < nw → PW W (S.2.getD 0 0) k N) (hr : ¬ k < nw → PR W (S.2.getD 0 0) (S.2.getD 1 0) (S.2.getD 2 0) N) : PInv nw n W (S.1.set k N, S.2) := by
  refine ⟨by simp [h.len], h.wl, h.c0, h.pb, ?_, ?_, ?_⟩
  · intro i X hX hn
    rcases set_cases hk hX with ⟨rfl, rfl⟩ | ⟨_, hX⟩
    · exact hw hn
    · exact h.wr i X hX hn
  · intro i X hX hn
    rcases set_cases hk hX with ⟨rfl, rfl⟩ | ⟨_, hX⟩
    · exact hr hn
    · exact h.rd i X hX hn
  · have ec := cw_same hk e1 (by rw [e2, hd])
    simp only []
    rw [ec]
    rcases h.mode with ⟨m1, m2, m3, m4⟩ | ⟨m1, m2, i, X, m3, m4, m5⟩
    · refine .inl ⟨m1, m2, m3, fun i X hX hI => ?_⟩
      rcases set_cases hk hX with ⟨rfl, rfl⟩ | ⟨_, hX⟩
      · exact m4 _ _ hk (hi hI)
      · exact m4 _ _ hX hI
    · have huniq : ∀ (j : Nat) (Y : Mach), (S.1.set k N)[j]? = some Y → ins Y → j = i := by
        intro j Y hY hI
        rcases set_cases hk hY with ⟨rfl, rfl⟩ | ⟨_, hY⟩
        · exact m5 _ _ hk (hi hI)
        · exact m5 _ _ hY hI
      by_cases hik : i = k
      · subst hik
        obtain rfl : M = X := Option.some.inj (hk.symm.trans m3)
        exact .inr ⟨m1, m2, i, N, get_set hk _, hi2 m4.ins m4, huniq⟩
      · exact .inr ⟨m1, m2, i, X, by rw [set_other hik]; exact m3, m4, huniq⟩
end Go.Proofs.Ytkgeapmafpeapaa
