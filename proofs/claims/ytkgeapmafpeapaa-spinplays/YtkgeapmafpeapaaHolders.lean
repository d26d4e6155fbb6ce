/-
  Holders of one lock: never do two hold it; who holds it is done behind its work; picked in turn all are done.
-/
import Derived.Test.YtkgeapmafpeapaaSched
namespace Go.Proofs.Ytkgeapmafpeapaa
open Go.RowKit

def nOpen (ms : List Mach) : Nat := ms.countP (fun M => !M.done)
theorem opn_length (ms : List Mach) : (opn ms).length = nOpen ms := by
  have key : ∀ k, k ≤ ms.length → (opens ms k).length = (ms.take k).countP (fun M => !M.done) := by
    intro k
    induction k with
    | zero => intro _; rfl
    | succ k ih =>
      intro hk
      have hk' : k < ms.length := by omega
      have e : ms[k]? = some ms[k] := List.getElem?_eq_getElem hk'
      have h1 := ih (by omega)
      have e2 : ms.take (k + 1) = ms.take k ++ [ms[k]] := by rw [List.take_add_one, e]; rfl
      cases hd : ms[k].done
      · rw [opens_open (by simp [doneAt, e, hd]), e2, List.countP_append, List.length_append, h1]; simp [hd]
      · rw [opens_done (by simp [doneAt, e, hd]), e2, List.countP_append, h1]; simp [hd]
  unfold opn nOpen
  rw [key _ (Nat.le_refl _), List.take_length]
theorem nOpen_set {ms : List Mach} {k : Nat} {M N : Mach} (hk : ms[k]? = some M) (hM : M.done = false) : nOpen (ms.set k N) + (if N.done = true then 1 else 0) = nOpen ms := by
  obtain ⟨hl, he⟩ := List.getElem?_eq_some_iff.1 hk
  unfold nOpen
  have hp : 0 < ms.countP (fun M => !M.done) := List.countP_pos_iff.2 ⟨M, List.mem_of_getElem? hk, by simp [hM]⟩
  rw [List.countP_set hl, he]
  cases hN : N.done <;> simp [hM] <;> omega
theorem opn_set {ms : List Mach} {k : Nat} {M N : Mach} (hk : ms[k]? = some M) (hd : N.done = M.done) : opn (ms.set k N) = opn ms := by
  refine opn_congr (by simp) fun i => ?_
  have hl := (List.getElem?_eq_some_iff.1 hk).1
  unfold doneAt
  by_cases hik : k = i
  · subst hik; rw [List.getElem?_set_self hl, hk]; exact hd
  · rw [List.getElem?_set_ne hik]

structure HInv (a W : Nat) (S : State) : Prop where
  each : ∀ (i : Nat) (M : Mach), S.1[i]? = some M → M.kind = 1 ∧ M.at_ = a ∧ M.work = W ∧ M.mark = (i : Int) + 1 ∧
    (M.done = false → (M.next = 0 ∧ S.2.getD a 0 ≠ (i : Int) + 1) ∨ (M.next = 3 ∧ S.2.getD a 0 = (i : Int) + 1 ∧ 0 ≤ M.left ∧ M.left ≤ W))
  lock : S.2.getD a 0 = 0 ∨ ∃ (i : Nat) (M : Mach), S.1[i]? = some M ∧ M.done = false ∧ S.2.getD a 0 = (i : Int) + 1
  la : a < S.2.length

theorem getD_set_self (ws : List Int) (a : Nat) (v : Int) (h : a < ws.length) : (ws.set a v).getD a 0 = v := by simp [h]
theorem getD_set_ne (ws : List Int) (a b : Nat) (v : Int) (h : a ≠ b) : (ws.set a v).getD b 0 = ws.getD b 0 := by
  rw [List.getD_eq_getElem?_getD, List.getD_eq_getElem?_getD, List.getElem?_set_ne h]

theorem set_cases {ms : List Mach} {k i : Nat} {M N X : Mach} (hk : ms[k]? = some M) (h : (ms.set k N)[i]? = some X) : (i = k ∧ X = N) ∨ (i ≠ k ∧ ms[i]? = some X) := by
  rw [List.getElem?_set] at h
  split at h
  · have := (List.getElem?_eq_some_iff.1 hk).1
    rename_i e
    rw [if_pos (by omega)] at h
    exact .inl ⟨e.symm, (Option.some.inj h).symm⟩
  · rename_i e
    exact .inr ⟨fun h => e h.symm, h⟩
theorem set_other {ms : List Mach} {k i : Nat} {N : Mach} (h : i ≠ k) : (ms.set k N)[i]? = ms[i]? := List.getElem?_set_ne (fun e => h e.symm)

/-- What one step of an open holder does. -/
def HStep (a W : Nat) (S : State) (k : Nat) (M : Mach) : Prop := ∀ C : Prop,
  (S.2.getD a 0 = 0 → stepAt S.1 S.2 k = (S.1.set k { M with next := 3, left := W }, S.2.set a ((k : Int) + 1)) → C) →
  (S.2.getD a 0 ≠ 0 → S.2.getD a 0 ≠ (k : Int) + 1 → stepAt S.1 S.2 k = (S.1.set k M.again, S.2) → C) →
  (S.2.getD a 0 = (k : Int) + 1 → M.next = 3 → ¬ M.left = 0 → stepAt S.1 S.2 k = (S.1.set k M.toil, S.2) → C) →
  (S.2.getD a 0 = (k : Int) + 1 → M.next = 3 → M.left = 0 → stepAt S.1 S.2 k = (S.1.set k { M with next := 5, done := true }, S.2.set a 0) → C) → C
theorem HStep.take {a W : Nat} {S : State} {k : Nat} {M : Mach} (hL : S.2.getD a 0 = 0) (e : stepAt S.1 S.2 k = (S.1.set k { M with next := 3, left := W }, S.2.set a ((k : Int) + 1))) : HStep a W S k M := fun _ t _ _ _ => t hL e
theorem HStep.wait {a W : Nat} {S : State} {k : Nat} {M : Mach} (h0 : S.2.getD a 0 ≠ 0) (hL : S.2.getD a 0 ≠ (k : Int) + 1) (e : stepAt S.1 S.2 k = (S.1.set k M.again, S.2)) : HStep a W S k M := fun _ _ t _ _ => t h0 hL e
theorem HStep.toil {a W : Nat} {S : State} {k : Nat} {M : Mach} (hL : S.2.getD a 0 = (k : Int) + 1) (hn : M.next = 3) (hl : ¬ M.left = 0) (e : stepAt S.1 S.2 k = (S.1.set k M.toil, S.2)) : HStep a W S k M := fun _ _ _ t _ => t hL hn hl e
theorem HStep.free {a W : Nat} {S : State} {k : Nat} {M : Mach} (hL : S.2.getD a 0 = (k : Int) + 1) (hn : M.next = 3) (hl : M.left = 0) (e : stepAt S.1 S.2 k = (S.1.set k { M with next := 5, done := true }, S.2.set a 0)) : HStep a W S k M := fun _ _ _ _ t => t hL hn hl e
theorem HStep.el {a W : Nat} {S : State} {k : Nat} {M : Mach} {motive : HStep a W S k M → Prop}
    (take : ∀ (hL : S.2.getD a 0 = 0) (e : stepAt S.1 S.2 k = (S.1.set k { M with next := 3, left := W }, S.2.set a ((k : Int) + 1))), motive (.take hL e))
    (wait : ∀ (h0 : S.2.getD a 0 ≠ 0) (hL : S.2.getD a 0 ≠ (k : Int) + 1) (e : stepAt S.1 S.2 k = (S.1.set k M.again, S.2)), motive (.wait h0 hL e))
    (toil : ∀ (hL : S.2.getD a 0 = (k : Int) + 1) (hn : M.next = 3) (hl : ¬ M.left = 0) (e : stepAt S.1 S.2 k = (S.1.set k M.toil, S.2)), motive (.toil hL hn hl e))
    (free : ∀ (hL : S.2.getD a 0 = (k : Int) + 1) (hn : M.next = 3) (hl : M.left = 0) (e : stepAt S.1 S.2 k = (S.1.set k { M with next := 5, done := true }, S.2.set a 0)), motive (.free hL hn hl e))
    (t : HStep a W S k M) : motive t :=
  t (motive t) (fun hL e => take hL e) (fun h0 hL e => wait h0 hL e) (fun hL hn hl e => toil hL hn hl e) (fun hL hn hl e => free hL hn hl e)

theorem HInv.cases {a W : Nat} {S : State} (h : HInv a W S) {k : Nat} {M : Mach} (hk : S.1[k]? = some M) (hd : M.done = false) : HStep a W S k M := by
  obtain ⟨h1, h2, h3, h4, h5⟩ := h.each k M hk
  have e := stepAt_open (ws := S.2) hk hd
  unfold Mach.step Mach.stepH at e
  rw [if_pos h1] at e
  rcases h5 hd with ⟨n0, hL⟩ | ⟨n3, hL, l0, l1⟩
  · rw [if_pos n0] at e
    by_cases h0 : S.2.getD a 0 = 0
    · rw [if_pos (by rw [h2]; exact h0)] at e
      refine .take h0 ?_
      rw [e]
      simp only [h2, h3, h4]
    · rw [if_neg (by rw [h2]; exact h0)] at e; exact .wait h0 hL e
  · rw [if_neg (by omega)] at e
    by_cases hl : M.left = 0
    · rw [if_neg (fun g => g.2 hl)] at e
      refine .free hL n3 hl ?_
      rw [e]
      simp only [h2]
    · rw [if_pos ⟨n3, hl⟩] at e; exact .toil hL n3 hl e

theorem HInv.step {a W : Nat} {S : State} (h : HInv a W S) {k : Nat} {M : Mach} (hk : S.1[k]? = some M) (hd : M.done = false) : HInv a W (stepAt S.1 S.2 k) := by
  obtain ⟨h1, h2, h3, h4, h5⟩ := h.each k M hk
  cases h.cases hk hd using HStep.el with
  | take hL e =>
    rw [e]
    refine ⟨?_, .inr ⟨k, _, get_set hk _, by simp [hd], getD_set_self _ _ _ h.la⟩, by simp [h.la]⟩
    intro i X hX
    rcases set_cases hk hX with ⟨rfl, rfl⟩ | ⟨hne, hX⟩
    · exact ⟨h1, h2, h3, h4, fun _ => .inr ⟨rfl, getD_set_self _ _ _ h.la, by simp, by simp⟩⟩
    · obtain ⟨g1, g2, g3, g4, g5⟩ := h.each i X hX
      refine ⟨g1, g2, g3, g4, fun hX' => ?_⟩
      rcases g5 hX' with ⟨n0, _⟩ | ⟨n3, hL', _⟩
      · exact .inl ⟨n0, by rw [getD_set_self _ _ _ h.la]; omega⟩
      · omega
  | wait h0 hL e =>
    rw [e]
    refine ⟨?_, ?_, h.la⟩
    · intro i X hX
      rcases set_cases hk hX with ⟨rfl, rfl⟩ | ⟨hne, hX⟩
      · exact ⟨h1, h2, h3, h4, fun _ => .inl ⟨rfl, hL⟩⟩
      · exact h.each i X hX
    · rcases h.lock with g | ⟨i, X, g1, g2, g3⟩
      · exact .inl g
      · have hne : i ≠ k := fun e => hL (by rw [← e]; exact g3)
        exact .inr ⟨i, X, by rw [set_other hne]; exact g1, g2, g3⟩
  | toil hL hn hl e =>
    rw [e]
    refine ⟨?_, .inr ⟨k, _, get_set hk _, hd, hL⟩, h.la⟩
    intro i X hX
    rcases set_cases hk hX with ⟨rfl, rfl⟩ | ⟨hne, hX⟩
    · refine ⟨h1, h2, h3, h4, fun _ => .inr ⟨hn, hL, ?_, ?_⟩⟩ <;> rcases h5 hd with ⟨n0, _⟩ | ⟨_, _, l0, l1⟩ <;> simp [Mach.toil] <;> omega
    · exact h.each i X hX
  | free hL hn hl e =>
    rw [e]
    refine ⟨?_, .inl (getD_set_self _ _ _ h.la), by simp [h.la]⟩
    intro i X hX
    rcases set_cases hk hX with ⟨rfl, rfl⟩ | ⟨hne, hX⟩
    · exact ⟨h1, h2, h3, h4, fun g => by simp at g⟩
    · obtain ⟨g1, g2, g3, g4, g5⟩ := h.each i X hX
      refine ⟨g1, g2, g3, g4, fun hX' => ?_⟩
      rcases g5 hX' with ⟨n0, _⟩ | ⟨n3, hL', _⟩
      · exact .inl ⟨n0, by rw [getD_set_self _ _ _ h.la]; omega⟩
      · omega

def hEv (a : Nat) (S : State) : Nat := 2 * nOpen S.1 - (if S.2.getD a 0 = 0 then 0 else 1)
def hDes (a : Nat) (S : State) (h rem : Nat) : Prop := (S.2.getD a 0 = 0 ∧ rem = 1) ∨ (S.2.getD a 0 = (h : Int) + 1 ∧ ∃ M, S.1[h]? = some M ∧ (rem : Int) = M.left + 1)

theorem hGoes (a W : Nat) : Goes (fun S => HInv a W S ∧ S.1.length ≤ 8) (hEv a) (hDes a) 8 (W + 1) := by
  refine ⟨?_, ?_, ?_⟩
  · rintro S ⟨h, hl⟩
    have := opens_le S.1 S.1.length
    unfold opn; omega
  · rintro S ⟨h, hl⟩ ho
    have hc : 0 < nOpen S.1 := by rw [← opn_length]; exact List.length_pos_iff.2 ho
    refine ⟨by unfold hEv; split <;> omega, ?_⟩
    rcases h.lock with g | ⟨i, X, g1, g2, g3⟩
    · obtain ⟨x, hx⟩ := List.exists_mem_of_ne_nil _ ho
      exact ⟨x, 1, hx, by omega, by omega, .inl ⟨g, rfl⟩⟩
    · obtain ⟨-, -, -, -, h5⟩ := h.each i X g1
      rcases h5 g2 with ⟨_, hL⟩ | ⟨n3, hL, l0, l1⟩
      · exact absurd g3 hL
      · exact ⟨i, X.left.toNat + 1, mem_opn.2 ⟨X, g1, g2⟩, by omega, by omega, .inr ⟨g3, X, g1, by omega⟩⟩
  · rintro S k ⟨h, hl⟩ hk
    obtain ⟨M, hM, hd⟩ := mem_opn.1 hk
    refine ⟨⟨h.step hM hd, by rw [stepAt_length]; exact hl⟩, ?_⟩
    have hc : 0 < nOpen S.1 := by rw [← opn_length]; exact List.length_pos_iff.2 (List.ne_nil_of_mem hk)
    cases h.cases hM hd using HStep.el with
    | take hL e =>
      refine .inl ?_
      rw [e]
      have e1 := nOpen_set (N := { M with next := 3, left := (W : Int) }) hM hd
      have e0 : ({ M with next := 3, left := (W : Int) } : Mach).done = false := hd
      rw [if_neg (by rw [e0]; simp)] at e1
      unfold hEv
      rw [getD_set_self _ _ _ h.la, if_neg (by omega), hL, if_pos rfl]
      simp only []
      omega
    | wait h0 hL e =>
      refine .inr ?_
      rw [e]
      have e1 := nOpen_set (N := M.again) hM hd
      have e0 : M.again.done = false := hd
      rw [e0] at e1
      simp at e1
      refine ⟨by unfold hEv; simp only []; rw [e1], opn_set hM (by rw [e0, hd]), fun x rem hx hdes hr => ⟨fun hxk => ?_, fun hxk => ?_⟩⟩
      · rcases hdes with ⟨g, _⟩ | ⟨g, _⟩
        · exact absurd g h0
        · rw [hxk] at hL; exact absurd g hL
      · rcases hdes with ⟨g, _⟩ | ⟨g, X, g1, g2⟩
        · exact absurd g h0
        · exact .inr ⟨g, X, by rw [set_other (fun e => hxk e.symm)]; exact g1, g2⟩
    | toil hL hn hl' e =>
      refine .inr ?_
      rw [e]
      have e1 := nOpen_set (N := M.toil) hM hd
      have e0 : M.toil.done = false := hd
      rw [e0] at e1
      simp at e1
      refine ⟨by unfold hEv; simp only []; rw [e1], opn_set hM (by rw [e0, hd]), fun x rem hx hdes hr => ⟨fun hxk => ?_, fun hxk => ?_⟩⟩
      · subst hxk
        rcases hdes with ⟨g, _⟩ | ⟨g, X, g1, g2⟩
        · omega
        · obtain rfl : M = X := Option.some.inj (hM.symm.trans g1)
          obtain ⟨-, -, -, -, h5⟩ := h.each k M hM
          rcases h5 hd with ⟨n0, _⟩ | ⟨_, _, l0, l1⟩
          · omega
          · exact ⟨rem - 1, by omega, by omega, .inr ⟨g, _, get_set hM _, by simp [Mach.toil]; omega⟩⟩
      · rcases hdes with ⟨g, _⟩ | ⟨g, X, g1, g2⟩
        · omega
        · exfalso; apply hxk; omega
    | free hL hn hl' e =>
      refine .inl ?_
      rw [e]
      have e1 := nOpen_set (N := { M with next := 5, done := true }) hM hd
      simp at e1
      unfold hEv
      rw [getD_set_self _ _ _ h.la, if_pos rfl, if_neg (by omega)]
      simp only []
      omega
end Go.Proofs.Ytkgeapmafpeapaa
