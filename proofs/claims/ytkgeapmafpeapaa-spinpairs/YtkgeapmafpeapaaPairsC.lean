/-
  Writers and readers of one pair: each step keeps what holds.
-/
import Derived.Test.YtkgeapmafpeapaaPairsB
namespace Go.Proofs.Ytkgeapmafpeapaa
open Go.RowKit

theorem par {x : Int} (h : 0 ≤ x) : x.tmod 2 = x % 2 := Int.tmod_eq_emod_of_nonneg h
theorem PW.mono {W i : Nat} {C C' : Int} {M : Mach} (h : PW W C i M) (hc : C ≤ C') : PW W C' i M :=
  ⟨h.kind, h.at_, h.work, h.hA, h.hB, h.l0, h.l1, fun hd => by rcases h.next hd with g | ⟨g1, g2, g3, g4⟩ | g; exact .inl g; exact .inr (.inl ⟨g1, g2, g3, by omega⟩); exact .inr (.inr g)⟩
theorem PR.up {W : Nat} {C C' p q p' q' : Int} {M : Mach} (h : PR W C p q M) (hc : C ≤ C') (hx : C < C' ∨ C' % 2 = 1) : PR W C' p' q' M :=
  ⟨h.kind, h.at_, h.work, h.l0, h.l1, fun hd => by rcases h.next hd with g | ⟨g1, g2, g3, g4⟩; exact .inl g; exact .inr ⟨g1, g2, by omega, fun e => by omega⟩, h.told⟩

theorem PInv.turn {nw n W : Nat} {S : State} (h : PInv nw n W S) {k : Nat} {M N : Mach} {ws' : List Int} (hk : S.1[k]? = some M) (hl : ws'.length = 3) (c0 : 0 ≤ ws'.getD 0 0) (pb : 0 ≤ ws'.getD 1 0 ∧ ws'.getD 1 0 ≤ 1000)
    (hw : k < nw → PW W (ws'.getD 0 0) k N) (hr : ¬ k < nw → PR W (ws'.getD 0 0) (ws'.getD 1 0) (ws'.getD 2 0) N)
    (ow : ∀ (i : Nat) (X : Mach), PW W (S.2.getD 0 0) i X → PW W (ws'.getD 0 0) i X) (orr : ∀ X : Mach, PR W (S.2.getD 0 0) (S.2.getD 1 0) (S.2.getD 2 0) X → PR W (ws'.getD 0 0) (ws'.getD 1 0) (ws'.getD 2 0) X)
    (hm : (ws'.getD 0 0 % 2 = 0 ∧ ws'.getD 2 0 = ws'.getD 1 0 + 100 ∧ ws'.getD 0 0 + 2 * cw (S.1.set k N) = 2 * nw ∧ ∀ (i : Nat) (X : Mach), (S.1.set k N)[i]? = some X → ¬ ins X) ∨
      (ws'.getD 0 0 % 2 = 1 ∧ ws'.getD 0 0 + 2 * cw (S.1.set k N) = 2 * nw + 1 ∧ ∃ (i : Nat) (X : Mach), (S.1.set k N)[i]? = some X ∧ Inside W (ws'.getD 0 0) (ws'.getD 1 0) (ws'.getD 2 0) X ∧ ∀ (j : Nat) (Y : Mach), (S.1.set k N)[j]? = some Y → ins Y → j = i)) :
    PInv nw n W (S.1.set k N, ws') := by
  refine ⟨by simp [h.len], hl, c0, pb, ?_, ?_, hm⟩
  · intro i X hX hn
    rcases set_cases hk hX with ⟨rfl, rfl⟩ | ⟨_, hX⟩
    · exact hw hn
    · exact ow i X (h.wr i X hX hn)
  · intro i X hX hn
    rcases set_cases hk hX with ⟨rfl, rfl⟩ | ⟨_, hX⟩
    · exact hr hn
    · exact orr X (h.rd i X hX hn)

theorem PInv.odd {nw n W : Nat} {S : State} (h : PInv nw n W S) {k : Nat} {M : Mach} (hk : S.1[k]? = some M) (hI : ins M) :
    S.2.getD 0 0 % 2 = 1 ∧ S.2.getD 0 0 + 2 * cw S.1 = 2 * nw + 1 ∧ Inside W (S.2.getD 0 0) (S.2.getD 1 0) (S.2.getD 2 0) M ∧ ∀ (j : Nat) (X : Mach), S.1[j]? = some X → ins X → j = k := by
  rcases h.mode with ⟨m1, m2, m3, m4⟩ | ⟨m1, m2, i, X, m3, m4, m5⟩
  · exact absurd hI (m4 _ _ hk)
  · obtain rfl := m5 k M hk hI
    obtain rfl : M = X := Option.some.inj (hk.symm.trans m3)
    exact ⟨m1, m2, m4, m5⟩
theorem PInv.even {nw n W : Nat} {S : State} (h : PInv nw n W S) (hc : S.2.getD 0 0 % 2 = 0) : S.2.getD 2 0 = S.2.getD 1 0 + 100 ∧ S.2.getD 0 0 + 2 * cw S.1 = 2 * nw ∧ ∀ (i : Nat) (M : Mach), S.1[i]? = some M → ¬ ins M := by
  rcases h.mode with ⟨m1, m2, m3, m4⟩ | ⟨m1, _⟩
  · exact ⟨m2, m3, m4⟩
  · omega
theorem PInv.le {nw n W : Nat} {S : State} (h : PInv nw n W S) : S.2.getD 0 0 ≤ 2 * nw + 1 := by
  rcases h.mode with ⟨_, _, m3, _⟩ | ⟨_, m2, _⟩ <;> omega
theorem not_ins {M : Mach} (h : M.next = 0 ∨ M.next = 1) : ¬ ins M := by
  rintro ⟨_, _, h3⟩; omega

theorem PInv.step {nw n W : Nat} {S : State} (h : PInv nw n W S) (h8 : nw ≤ 100) {k : Nat} {M : Mach} (hk : S.1[k]? = some M) (hd : M.done = false) : PInv nw n W (stepAt S.1 S.2 k) := by
  have wl := h.wl
  have hle := h.le
  have c0 := h.c0
  cases h.kinds hk hd using PStep.el with
  | wl h2 hn hc e =>
    rw [e]
    have hK := h.isW hk h2
    have g := h.wr k M hk hK
    rw [par c0] at hc
    exact h.quiet hk hd rfl hd (fun hI => absurd hI (not_ins (.inr rfl))) (fun hI => absurd hI (not_ins (.inl hn))) (fun _ => ⟨g.kind, g.at_, g.work, g.hA, g.hB, g.l0, g.l1, fun _ => .inr (.inl ⟨rfl, hc, c0, Int.le_refl _⟩)⟩) (fun x => absurd hK x)
  | wo h2 hn hc e =>
    rw [e]
    have hK := h.isW hk h2
    have g := h.wr k M hk hK
    exact h.quiet hk hd rfl hd (fun hI => absurd hI (not_ins (.inl rfl))) (fun hI => absurd hI (not_ins (.inl hn))) (fun _ => ⟨g.kind, g.at_, g.work, g.hA, g.hB, g.l0, g.l1, fun _ => .inl rfl⟩) (fun x => absurd hK x)
  | wf h2 hn hc e =>
    rw [e]
    have hK := h.isW hk h2
    have g := h.wr k M hk hK
    exact h.quiet hk hd rfl hd (fun hI => absurd hI (not_ins (.inl rfl))) (fun hI => absurd hI (not_ins (.inr hn))) (fun _ => ⟨g.kind, g.at_, g.work, g.hA, g.hB, g.l0, g.l1, fun _ => .inl rfl⟩) (fun x => absurd hK x)
  | ww h2 hn hl e =>
    rw [e]
    have hK := h.isW hk h2
    have g := h.wr k M hk hK
    have l0 := g.l0
    have l1 := g.l1
    exact h.quiet hk hd rfl hd (fun hI => hI) (fun _ hI => ⟨hI.ins, hI.cnt, hI.p2, hI.p3, hI.p5⟩) (fun _ => ⟨g.kind, g.at_, g.work, g.hA, g.hB, by simp [Mach.toil]; omega, by simp [Mach.toil]; omega, fun _ => .inr (.inr (.inr (.inl hn)))⟩) (fun x => absurd hK x)
  | rl h3 hn hc e =>
    rw [e]
    have hK := h.isR hk h3
    have g := h.rd k M hk hK
    rw [par c0] at hc
    exact h.quiet hk hd rfl hd (fun hI => by have := hI.1; simp only [] at this; omega) (fun hI => absurd hI (not_ins (.inl hn))) (fun x => absurd x hK) (fun _ => ⟨g.kind, g.at_, g.work, g.l0, g.l1, fun _ => .inr ⟨.inl rfl, hc, Int.le_refl _, fun _ => ⟨fun x => by simp at x, fun x => by simp at x⟩⟩, fun x => by rw [hd] at x; cases x⟩)
  | ro h3 hn hc e =>
    rw [e]
    have hK := h.isR hk h3
    have g := h.rd k M hk hK
    exact h.quiet hk hd rfl hd (fun hI => absurd hI (not_ins (.inl rfl))) (fun hI => absurd hI (not_ins (.inl hn))) (fun x => absurd x hK) (fun _ => ⟨g.kind, g.at_, g.work, g.l0, g.l1, fun _ => .inl rfl, fun x => by rw [hd] at x; cases x⟩)
  | rf h3 hn hc e =>
    rw [e]
    have hK := h.isR hk h3
    have g := h.rd k M hk hK
    exact h.quiet hk hd rfl hd (fun hI => absurd hI (not_ins (.inl rfl))) (fun hI => by have := hI.1; omega) (fun x => absurd x hK) (fun _ => ⟨g.kind, g.at_, g.work, g.l0, g.l1, fun _ => .inl rfl, fun x => by have : M.done = true := x; rw [hd] at this; cases this⟩)
  | ra h3 hn e =>
    rw [e]
    have hK := h.isR hk h3
    have g := h.rd k M hk hK
    rcases g.next hd with x | ⟨_, x2, x3, x4⟩
    · omega
    · exact h.quiet hk hd rfl hd (fun hI => by have := hI.1; simp only [] at this; omega) (fun hI => by have := hI.1; omega) (fun x => absurd x hK) (fun _ => ⟨g.kind, g.at_, g.work, by simp, by simp, fun _ => .inr ⟨.inr (.inl rfl), x2, x3, fun _ => ⟨fun _ => rfl, fun x => by simp at x⟩⟩, fun x => by rw [hd] at x; cases x⟩)
  | rw h3 hn hl e =>
    rw [e]
    have hK := h.isR hk h3
    have g := h.rd k M hk hK
    have l0 := g.l0
    have l1 := g.l1
    rcases g.next hd with x | ⟨x1, x2, x3, x4⟩
    · omega
    · exact h.quiet hk hd rfl hd (fun hI => by have := hI.1; simp only [Mach.toil] at this; omega) (fun hI => by have := hI.1; omega) (fun x => absurd x hK) (fun _ => ⟨g.kind, g.at_, g.work, by simp [Mach.toil]; omega, by simp [Mach.toil]; omega, fun _ => .inr ⟨x1, x2, x3, x4⟩, fun x => by have : M.done = true := x; rw [hd] at this; cases this⟩)
  | rb h3 hn hl e =>
    rw [e]
    have hK := h.isR hk h3
    have g := h.rd k M hk hK
    rcases g.next hd with x | ⟨_, x2, x3, x4⟩
    · omega
    · exact h.quiet hk hd rfl hd (fun hI => by have := hI.1; simp only [] at this; omega) (fun hI => by have := hI.1; omega) (fun x => absurd x hK) (fun _ => ⟨g.kind, g.at_, g.work, g.l0, g.l1, fun _ => .inr ⟨.inr (.inr rfl), x2, x3, fun ec => ⟨fun x => by simp at x, fun _ => ⟨(x4 ec).1 hn, rfl⟩⟩⟩, fun x => by rw [hd] at x; cases x⟩)
  | wt h2 hn hc e =>
    rw [e]
    have hK := h.isW hk h2
    have g := h.wr k M hk hK
    rcases g.next hd with x | ⟨_, x2, x3, x4⟩ | x
    · omega
    · have hce : S.2.getD 0 0 % 2 = 0 := by rw [hc]; exact x2
      obtain ⟨q1, q2, q3⟩ := h.even hce
      rw [wrap_small _ (by omega) (by omega)]
      have e0 : (S.2.set 0 (M.count + 1)).getD 0 0 = M.count + 1 := getD_set_self _ _ _ (by omega)
      have e1 : (S.2.set 0 (M.count + 1)).getD 1 0 = S.2.getD 1 0 := getD_set_ne _ _ _ _ (by omega)
      have e2 : (S.2.set 0 (M.count + 1)).getD 2 0 = S.2.getD 2 0 := getD_set_ne _ _ _ _ (by omega)
      refine h.turn hk (by simp [wl]) (by rw [e0]; omega) (by rw [e1]; exact h.pb) (fun _ => ⟨g.kind, g.at_, g.work, g.hA, g.hB, g.l0, g.l1, fun _ => .inr (.inr (.inl rfl))⟩) (fun x => absurd hK x) (fun i X hX => hX.mono (by rw [e0]; omega)) (fun X hX => hX.up (by rw [e0]; omega) (.inl (by rw [e0]; omega))) (.inr ?_)
      rw [e0, e1, e2, cw_same (N := { M with next := 2 }) hk rfl rfl]
      refine ⟨by omega, by omega, k, _, get_set hk _, ⟨⟨h2, hd, .inl rfl⟩, rfl, fun _ => q1, fun x => by simp at x, fun x => by simp at x⟩, ?_⟩
      intro j Y hY hI
      rcases set_cases hk hY with ⟨rfl, _⟩ | ⟨_, hY⟩
      · rfl
      · exact absurd hI (q3 _ _ hY)
    · omega
  | wa h2 hn e =>
    rw [e]
    have hK := h.isW hk h2
    have g := h.wr k M hk hK
    obtain ⟨q1, q2, q3, q4⟩ := h.odd hk ⟨h2, hd, .inl hn⟩
    have e0 : (S.2.set 1 M.A).getD 0 0 = S.2.getD 0 0 := getD_set_ne _ _ _ _ (by omega)
    have e1 : (S.2.set 1 M.A).getD 1 0 = M.A := getD_set_self _ _ _ (by omega)
    have e2 : (S.2.set 1 M.A).getD 2 0 = S.2.getD 2 0 := getD_set_ne _ _ _ _ (by omega)
    refine h.turn hk (by simp [wl]) (by rw [e0]; exact c0) (by rw [e1, g.hA]; omega) (fun _ => ⟨g.kind, g.at_, g.work, g.hA, g.hB, by simp, by simp, fun _ => .inr (.inr (.inr (.inl rfl)))⟩) (fun x => absurd hK x) (fun i X hX => hX.mono (by rw [e0]; omega)) (fun X hX => hX.up (by rw [e0]; omega) (.inr (by rw [e0]; exact q1))) (.inr ?_)
    rw [e0, e1, e2, cw_same (N := { M with next := 3, left := (W : Int) }) hk rfl rfl]
    refine ⟨q1, q2, k, _, get_set hk _, ⟨⟨h2, hd, .inr (.inl rfl)⟩, q3.cnt, fun x => by simp at x, fun _ => rfl, fun x => by simp at x⟩, ?_⟩
    intro j Y hY hI
    rcases set_cases hk hY with ⟨rfl, _⟩ | ⟨_, hY⟩
    · rfl
    · exact q4 _ _ hY hI
  | wb h2 hn hl e =>
    rw [e]
    have hK := h.isW hk h2
    have g := h.wr k M hk hK
    obtain ⟨q1, q2, q3, q4⟩ := h.odd hk ⟨h2, hd, .inr (.inl hn)⟩
    have e0 : (S.2.set 2 M.B).getD 0 0 = S.2.getD 0 0 := getD_set_ne _ _ _ _ (by omega)
    have e1 : (S.2.set 2 M.B).getD 1 0 = S.2.getD 1 0 := getD_set_ne _ _ _ _ (by omega)
    have e2 : (S.2.set 2 M.B).getD 2 0 = M.B := getD_set_self _ _ _ (by omega)
    refine h.turn hk (by simp [wl]) (by rw [e0]; exact c0) (by rw [e1]; exact h.pb) (fun _ => ⟨g.kind, g.at_, g.work, g.hA, g.hB, g.l0, g.l1, fun _ => .inr (.inr (.inr (.inr rfl)))⟩) (fun x => absurd hK x) (fun i X hX => hX.mono (by rw [e0]; omega)) (fun X hX => hX.up (by rw [e0]; omega) (.inr (by rw [e0]; exact q1))) (.inr ?_)
    rw [e0, e1, e2, cw_same (N := { M with next := 5 }) hk rfl rfl]
    refine ⟨q1, q2, k, _, get_set hk _, ⟨⟨h2, hd, .inr (.inr rfl)⟩, q3.cnt, fun x => by simp at x, fun x => by simp at x, fun _ => ⟨q3.p3 hn, rfl⟩⟩, ?_⟩
    intro j Y hY hI
    rcases set_cases hk hY with ⟨rfl, _⟩ | ⟨_, hY⟩
    · rfl
    · exact q4 _ _ hY hI
  | wd h2 hn e =>
    rw [e]
    have hK := h.isW hk h2
    have g := h.wr k M hk hK
    obtain ⟨q1, q2, q3, q4⟩ := h.odd hk ⟨h2, hd, .inr (.inr hn)⟩
    have qc := q3.cnt
    obtain ⟨p5, p6⟩ := q3.p5 hn
    rw [wrap_small _ (by omega) (by omega)]
    have e0 : (S.2.set 0 (M.count + 2)).getD 0 0 = M.count + 2 := getD_set_self _ _ _ (by omega)
    have e1 : (S.2.set 0 (M.count + 2)).getD 1 0 = S.2.getD 1 0 := getD_set_ne _ _ _ _ (by omega)
    have e2 : (S.2.set 0 (M.count + 2)).getD 2 0 = S.2.getD 2 0 := getD_set_ne _ _ _ _ (by omega)
    have ec := cnt_set (fun M => M.kind == 2 && !M.done) hk { M with done := true }
    simp [h2, hd] at ec
    refine h.turn hk (by simp [wl]) (by rw [e0]; omega) (by rw [e1]; exact h.pb) (fun _ => ⟨g.kind, g.at_, g.work, g.hA, g.hB, g.l0, g.l1, fun x => by simp at x⟩) (fun x => absurd hK x) (fun i X hX => hX.mono (by rw [e0]; omega)) (fun X hX => hX.up (by rw [e0]; omega) (.inl (by rw [e0]; omega))) (.inl ?_)
    rw [e0, e1, e2]
    refine ⟨by omega, by rw [p5, p6, g.hA, g.hB]; omega, ?_, ?_⟩
    · unfold cw at *
      simp only [h2] at *
      omega
    · intro i X hX hI
      rcases set_cases hk hX with ⟨rfl, rfl⟩ | ⟨hne, hX⟩
      · have := hI.2.1; simp at this
      · exact hne (q4 _ _ hX hI)
  | rd h3 hn hc e =>
    rw [e]
    have hK := h.isR hk h3
    have g := h.rd k M hk hK
    rcases g.next hd with x | ⟨_, x2, x3, x4⟩
    · omega
    · obtain ⟨y1, y2⟩ := (x4 hc.symm).2 hn
      obtain ⟨q1, q2, q3⟩ := h.even (by rw [hc]; exact x2)
      refine h.turn hk wl c0 h.pb (fun x => absurd x hK) (fun _ => ⟨g.kind, g.at_, g.work, g.l0, g.l1, fun x => by simp at x, fun _ => by have := h.pb; simp only []; omega⟩) (fun i X hX => hX) (fun X hX => hX) (.inl ⟨by rw [hc]; exact x2, q1, ?_, ?_⟩)
      · have ec := cnt_set (fun M => M.kind == 2 && !M.done) hk { M with done := true, sA := M.a, sB := M.b }
        simp [h3] at ec
        unfold cw at *
        simp only [h3] at *
        omega
      · intro i X hX hI
        rcases set_cases hk hX with ⟨rfl, rfl⟩ | ⟨_, hX⟩
        · have := hI.2.1; simp at this
        · exact q3 _ _ hX hI
end Go.Proofs.Ytkgeapmafpeapaa
