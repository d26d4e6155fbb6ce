/-
  Writers and readers of one pair that are picked in turn are all done behind a bound of steps.
-/
import Derived.Test.YtkgeapmafpeapaaPairsC
namespace Go.Proofs.Ytkgeapmafpeapaa
open Go.RowKit

def remW (W : Nat) (C : Int) (M : Mach) : Int := if C % 2 = 1 then (if M.next = 2 then (W : Int) + 3 else if M.next = 3 then M.left + 2 else 1) else (if M.next = 0 then 2 else if M.count = C then 1 else 3)
def remR (W : Nat) (C : Int) (M : Mach) : Int := (if M.next = 0 then (W : Int) + 4 else if M.next = 2 then (W : Int) + 3 else if M.next = 3 then M.left + 2 else 1) + (if M.next ≠ 0 ∧ M.count ≠ C then (W : Int) + 4 else 0)
def pEv (S : State) : Nat := 2 * cw S.1 + cr S.1 - (if S.2.getD 0 0 % 2 = 1 then 1 else 0)
def pDes (W : Nat) (S : State) (h rem : Nat) : Prop := ∃ M, S.1[h]? = some M ∧ M.done = false ∧
  ((M.kind = 2 ∧ (S.2.getD 0 0 % 2 = 1 → ins M) ∧ (rem : Int) = remW W (S.2.getD 0 0) M) ∨ (M.kind = 3 ∧ S.2.getD 0 0 % 2 = 0 ∧ cw S.1 = 0 ∧ (rem : Int) = remR W (S.2.getD 0 0) M))

theorem cw_pos {ms : List Mach} {i : Nat} {M : Mach} (h : ms[i]? = some M) (h2 : M.kind = 2) (hd : M.done = false) : 0 < cw ms := List.countP_pos_iff.2 ⟨M, List.mem_of_getElem? h, by simp [h2, hd]⟩
theorem cr_pos {ms : List Mach} {i : Nat} {M : Mach} (h : ms[i]? = some M) (h2 : M.kind = 3) (hd : M.done = false) : 0 < cr ms := List.countP_pos_iff.2 ⟨M, List.mem_of_getElem? h, by simp [h2, hd]⟩

theorem quietStep (W : Nat) {S : State} {k : Nat} {M N : Mach} {ws' : List Int} (hk : S.1[k]? = some M) (hd : M.done = false) (e : stepAt S.1 S.2 k = (S.1.set k N, ws')) (hC : ws'.getD 0 0 = S.2.getD 0 0) (e1 : N.kind = M.kind) (e2 : N.done = false)
    (hrW : M.kind = 2 → (S.2.getD 0 0 % 2 = 1 → ins M) → (S.2.getD 0 0 % 2 = 1 → ins N) ∧ 1 ≤ remW W (S.2.getD 0 0) N ∧ remW W (S.2.getD 0 0) N = remW W (S.2.getD 0 0) M - 1)
    (hrR : M.kind = 3 → S.2.getD 0 0 % 2 = 0 → 1 ≤ remR W (S.2.getD 0 0) N ∧ remR W (S.2.getD 0 0) N = remR W (S.2.getD 0 0) M - 1) :
    pEv (stepAt S.1 S.2 k) = pEv S ∧ opn (stepAt S.1 S.2 k).1 = opn S.1 ∧ ∀ h rem, h ∈ opn S.1 → pDes W S h rem → 1 ≤ rem →
      (k = h → ∃ rem', 1 ≤ rem' ∧ rem' < rem ∧ pDes W (stepAt S.1 S.2 k) h rem') ∧ (k ≠ h → pDes W (stepAt S.1 S.2 k) h rem) := by
  have c1 := cw_same (N := N) hk e1 (by rw [e2, hd])
  have c2 := cr_same (N := N) hk e1 (by rw [e2, hd])
  rw [e]
  refine ⟨by unfold pEv; simp only []; rw [c1, c2, hC], opn_set hk (by rw [e2, hd]), fun h rem _ hdes hr => ⟨fun hkh => ?_, fun hkh => ?_⟩⟩
  · subst hkh
    obtain ⟨X, x1, x2, x3⟩ := hdes
    obtain rfl : M = X := Option.some.inj (hk.symm.trans x1)
    rcases x3 with ⟨y1, y2, y3⟩ | ⟨y1, y2, y3, y4⟩
    · obtain ⟨z1, z2, z3⟩ := hrW y1 y2
      exact ⟨rem - 1, by omega, by omega, N, get_set hk _, e2, .inl ⟨by rw [e1]; exact y1, by simp only []; rw [hC]; exact z1, by simp only []; rw [hC]; omega⟩⟩
    · obtain ⟨z2, z3⟩ := hrR y1 y2
      exact ⟨rem - 1, by omega, by omega, N, get_set hk _, e2, .inr ⟨by rw [e1]; exact y1, by simp only []; rw [hC]; exact y2, by simp only []; rw [c1]; exact y3, by simp only []; rw [hC]; omega⟩⟩
  · obtain ⟨X, x1, x2, x3⟩ := hdes
    refine ⟨X, by simp only []; rw [set_other (fun e => hkh e.symm)]; exact x1, x2, ?_⟩
    simp only []
    rw [hC, c1]
    exact x3

theorem pGoes (nw n W : Nat) (h4 : nw ≤ 4) (h7 : n ≤ 7) (h5 : W ≤ 5) : Goes (fun S => PInv nw n W S) pEv (pDes W) 7 17 := by
  refine ⟨?_, ?_, ?_⟩
  · intro S h
    have := opens_le S.1 S.1.length
    have := h.len
    unfold opn; omega
  · intro S h ho
    rcases h.mode with ⟨m1, m2, m3, m4⟩ | ⟨m1, m2, i, M, m3, m4, m5⟩
    · by_cases hc : cw S.1 = 0
      · obtain ⟨x, hx⟩ := List.exists_mem_of_ne_nil _ ho
        obtain ⟨M, hM, hd⟩ := mem_opn.1 hx
        have hxw : ¬ x < nw := fun g => by
          have := cw_pos hM (h.wr x M hM g).kind hd
          omega
        have g := h.rd x M hM hxw
        have l0 := g.l0
        have l1 := g.l1
        have hr1 : 1 ≤ remR W (S.2.getD 0 0) M ∧ remR W (S.2.getD 0 0) M ≤ 17 := by
          unfold remR
          repeat' split
          all_goals omega
        have hp := cr_pos hM g.kind hd
        exact ⟨by unfold pEv; rw [if_neg (by omega)]; omega, x, (remR W (S.2.getD 0 0) M).toNat, hx, by omega, by omega, M, hM, hd, .inr ⟨g.kind, m1, hc, by omega⟩⟩
      · obtain ⟨M, hMm, hMp⟩ := List.countP_pos_iff.1 (Nat.pos_of_ne_zero hc)
        simp at hMp
        obtain ⟨x, hM⟩ := List.mem_iff_getElem?.1 hMm
        have hr1 : 1 ≤ remW W (S.2.getD 0 0) M ∧ remW W (S.2.getD 0 0) M ≤ 17 := by
          unfold remW
          rw [if_neg (by omega)]
          repeat' split
          all_goals omega
        exact ⟨by unfold pEv; rw [if_neg (by omega)]; omega, x, (remW W (S.2.getD 0 0) M).toNat, mem_opn.2 ⟨M, hM, hMp.2⟩, by omega, by omega, M, hM, hMp.2, .inl ⟨hMp.1, fun e => by omega, by omega⟩⟩
    · have hI := m4.ins
      have hp := cw_pos m3 hI.1 hI.2.1
      have g := h.wr i M m3 (h.isW m3 hI.1)
      have l0 := g.l0
      have l1 := g.l1
      have hr1 : 1 ≤ remW W (S.2.getD 0 0) M ∧ remW W (S.2.getD 0 0) M ≤ 17 := by
        unfold remW
        repeat' split
        all_goals omega
      exact ⟨by unfold pEv; rw [if_pos m1]; omega, i, (remW W (S.2.getD 0 0) M).toNat, mem_opn.2 ⟨M, m3, hI.2.1⟩, by omega, by omega, M, m3, hI.2.1, .inl ⟨hI.1, fun _ => hI, by omega⟩⟩
  · intro S k h hk
    obtain ⟨M, hM, hd⟩ := mem_opn.1 hk
    have hS := h.step (by omega) hM hd
    refine ⟨hS, ?_⟩
    have c0 := h.c0
    have wl := h.wl
    have hle := h.le
    cases h.kinds hM hd using PStep.el with
    | wl h2 hn hc e =>
      rw [par c0] at hc
      have ho : ¬ S.2.getD 0 0 % 2 = 1 := by omega
      refine .inr (quietStep W hM hd e rfl rfl hd (fun _ _ => ⟨fun x => absurd x ho, ?_, ?_⟩) (fun x => by omega))
      · unfold remW; rw [if_neg ho]; simp
      · unfold remW; rw [if_neg ho, if_neg ho, if_pos hn]; simp
    | wo h2 hn hc e =>
      rw [par c0] at hc
      exact .inr (quietStep W hM hd e rfl rfl hd (fun _ x => absurd (x (by omega)) (not_ins (.inl hn))) (fun x => by omega))
    | wf h2 hn hc e =>
      refine .inr (quietStep W hM hd e rfl rfl hd (fun _ x => ?_) (fun x => by omega))
      by_cases ho : S.2.getD 0 0 % 2 = 1
      · exact absurd (x ho) (not_ins (.inr hn))
      · refine ⟨fun g => absurd g ho, ?_, ?_⟩
        · unfold remW; rw [if_neg ho]; simp [Mach.again]
        · unfold remW; rw [if_neg ho, if_neg ho, if_neg (show ¬ M.next = 0 by omega), if_neg (show ¬ M.count = S.2.getD 0 0 from fun e => hc e.symm)]; simp [Mach.again]
    | wa h2 hn e =>
      obtain ⟨q1, -, -, -⟩ := h.odd hM ⟨h2, hd, .inl hn⟩
      refine .inr (quietStep W hM hd e (getD_set_ne _ _ _ _ (by omega)) rfl hd (fun _ _ => ⟨fun _ => ⟨h2, hd, .inr (.inl rfl)⟩, ?_, ?_⟩) (fun x => by omega))
      · unfold remW; rw [if_pos q1]; simp; omega
      · unfold remW; rw [if_pos q1, if_pos q1, if_pos hn]; simp; omega
    | ww h2 hn hl e =>
      obtain ⟨q1, -, -, -⟩ := h.odd hM ⟨h2, hd, .inr (.inl hn)⟩
      have g := h.wr k M hM (h.isW hM h2)
      have l0 := g.l0
      have en : M.toil.next = 3 := hn
      have el : M.toil.left = M.left - 1 := rfl
      refine .inr (quietStep W hM hd e rfl rfl hd (fun _ _ => ⟨fun _ => ⟨h2, hd, .inr (.inl hn)⟩, ?_, ?_⟩) (fun x => by omega))
      · unfold remW; rw [if_pos q1, en, el]; simp; omega
      · unfold remW; rw [if_pos q1, if_pos q1, en, el, hn]; simp; omega
    | wb h2 hn hl e =>
      obtain ⟨q1, -, -, -⟩ := h.odd hM ⟨h2, hd, .inr (.inl hn)⟩
      refine .inr (quietStep W hM hd e (getD_set_ne _ _ _ _ (by omega)) rfl hd (fun _ _ => ⟨fun _ => ⟨h2, hd, .inr (.inr rfl)⟩, ?_, ?_⟩) (fun x => by omega))
      · unfold remW; rw [if_pos q1]; simp
      · unfold remW; rw [if_pos q1, if_pos q1, hn, hl]; simp
    | rl h3 hn hc e =>
      refine .inr (quietStep W hM hd e rfl rfl hd (fun x => by omega) (fun _ _ => ⟨?_, ?_⟩))
      · unfold remR; simp; omega
      · unfold remR; rw [hn]; simp; omega
    | ro h3 hn hc e =>
      rw [par c0] at hc
      exact .inr (quietStep W hM hd e rfl rfl hd (fun x => by omega) (fun _ x => absurd x hc))
    | ra h3 hn e =>
      refine .inr (quietStep W hM hd e rfl rfl hd (fun x => by omega) (fun _ _ => ⟨?_, ?_⟩))
      · unfold remR; simp; split <;> omega
      · unfold remR; rw [hn]; simp; omega
    | rw h3 hn hl e =>
      have g := h.rd k M hM (h.isR hM h3)
      have l0 := g.l0
      have en : M.toil.next = 3 := hn
      have el : M.toil.left = M.left - 1 := rfl
      have ec : M.toil.count = M.count := rfl
      refine .inr (quietStep W hM hd e rfl rfl hd (fun x => by omega) (fun _ _ => ⟨?_, ?_⟩))
      · unfold remR; rw [en, el, ec]; simp; split <;> omega
      · unfold remR; rw [en, el, ec, hn]; simp; omega
    | rb h3 hn hl e =>
      refine .inr (quietStep W hM hd e rfl rfl hd (fun x => by omega) (fun _ _ => ⟨?_, ?_⟩))
      · unfold remR; simp; split <;> omega
      · unfold remR; rw [hn, hl]; simp; omega
    | rf h3 hn hc e =>
      have en : M.again.next = 0 := rfl
      refine .inr (quietStep W hM hd e rfl rfl hd (fun x => by omega) (fun _ _ => ⟨?_, ?_⟩))
      · unfold remR; rw [en]; simp; omega
      · unfold remR; rw [en, hn]; simp; rw [if_neg (fun e => hc e.symm)]; omega
    | wt h2 hn hc e =>
      have g := h.wr k M hM (h.isW hM h2)
      refine .inl ?_
      rcases g.next hd with x | ⟨_, x2, x3, x4⟩ | x
      · omega
      · have hp := cw_pos hM h2 hd
        have c1 := cw_same (N := { M with next := 2 }) hM rfl rfl
        have c2 := cr_same (N := { M with next := 2 }) hM rfl rfl
        rw [e]
        unfold pEv
        simp only []
        rw [c1, c2, getD_set_self _ _ _ (by omega), wrap_small _ (by omega) (by omega), if_pos (by omega), if_neg (by omega)]
        omega
      · omega
    | wd h2 hn e =>
      refine .inl ?_
      obtain ⟨q1, q2, q3, q4⟩ := h.odd hM ⟨h2, hd, .inr (.inr hn)⟩
      have qc := q3.cnt
      have hp := cw_pos hM h2 hd
      have ec := cnt_set (fun M => M.kind == 2 && !M.done) hM { M with done := true }
      have ed := cnt_set (fun M => M.kind == 3 && !M.done) hM { M with done := true }
      simp [h2, hd] at ec ed
      rw [e]
      unfold pEv cw cr at *
      simp only [h2] at *
      rw [getD_set_self _ _ _ (by omega), wrap_small _ (by omega) (by omega), if_pos q1, if_neg (by omega)]
      omega
    | rd h3 hn hc e =>
      refine .inl ?_
      have g := h.rd k M hM (h.isR hM h3)
      rcases g.next hd with x | ⟨_, x2, x3, x4⟩
      · omega
      · have hp := cr_pos hM h3 hd
        have ec := cnt_set (fun M => M.kind == 2 && !M.done) hM { M with done := true, sA := M.a, sB := M.b }
        have ed := cnt_set (fun M => M.kind == 3 && !M.done) hM { M with done := true, sA := M.a, sB := M.b }
        simp [h3, hd] at ec ed
        rw [e]
        unfold pEv cw cr at *
        simp only [h3] at *
        rw [if_neg (by rw [hc]; omega)]
        omega
end Go.Proofs.Ytkgeapmafpeapaa
