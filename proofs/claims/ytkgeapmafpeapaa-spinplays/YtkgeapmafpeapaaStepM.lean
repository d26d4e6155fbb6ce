/-
  One step of a machine as a function of the machine and the words; the contract of step and of a run's Step.
-/
import Derived.Test.YtkgeapmafpeapaaRead
namespace Go.Proofs.Ytkgeapmafpeapaa
open Go.RowKit
attribute [local go_sem ↓] Go.wp_at_zero Go.wp_at_succ

def Mach.stepH (M : Mach) (ws : List Int) : Mach × List Int :=
  if M.next = 0 then (if ws.getD M.at_ 0 = 0 then ({ M with next := 3, left := M.work }, ws.set M.at_ M.mark) else (M.again, ws))
  else if M.next = 3 ∧ ¬ M.left = 0 then (M.toil, ws)
  else ({ M with next := 5, done := true }, ws.set M.at_ 0)
def Mach.stepW (M : Mach) (ws : List Int) : Mach × List Int :=
  if M.next = 0 then (if (ws.getD M.at_ 0).tmod 2 = 0 then ({ M with count := ws.getD M.at_ 0, next := 1 }, ws) else ({ M with count := ws.getD M.at_ 0, tries := M.tries + 1, next := 0 }, ws))
  else if M.next = 1 then (if ws.getD M.at_ 0 = M.count then ({ M with next := 2 }, ws.set M.at_ (IntKind.i64.wrap (M.count + 1))) else (M.again, ws))
  else if M.next = 2 then ({ M with next := 3, left := M.work }, ws.set (M.at_ + 1) M.A)
  else if M.next = 5 then ({ M with done := true }, ws.set M.at_ (IntKind.i64.wrap (M.count + 2)))
  else if M.next = 3 ∧ ¬ M.left = 0 then (M.toil, ws)
  else ({ M with next := 5 }, ws.set (M.at_ + 2) M.B)
def Mach.stepR (M : Mach) (ws : List Int) : Mach × List Int :=
  if M.next = 0 then (if (ws.getD M.at_ 0).tmod 2 = 0 then ({ M with count := ws.getD M.at_ 0, next := 2 }, ws) else ({ M with count := ws.getD M.at_ 0, tries := M.tries + 1, next := 0 }, ws))
  else if M.next = 2 then ({ M with a := ws.getD (M.at_ + 1) 0, next := 3, left := M.work }, ws)
  else if M.next = 5 then (if ws.getD M.at_ 0 = M.count then ({ M with done := true, sA := M.a, sB := M.b }, ws) else (M.again, ws))
  else if M.next = 3 ∧ ¬ M.left = 0 then (M.toil, ws)
  else ({ M with b := ws.getD (M.at_ + 2) 0, next := 5 }, ws)
def Mach.step (M : Mach) (ws : List Int) : Mach × List Int :=
  if M.kind = 1 then M.stepH ws else if M.kind = 2 then M.stepW ws else M.stepR ws

/-- What a machine is at every time. -/
structure Mach.ok (n : Nat) (M : Mach) : Prop where
  kind : M.kind = 1 ∨ M.kind = 2 ∨ M.kind = 3
  at1 : M.at_ < n
  at3 : ¬ M.kind = 1 → M.at_ + 2 < n
  w0 : 0 ≤ M.work
  w1 : M.work ≤ 100
  l0 : 0 ≤ M.left
  l1 : M.left ≤ 100
  t0 : 0 ≤ M.tries
  n1 : M.kind = 1 → M.next = 0 ∨ M.next = 3 ∨ M.next = 5
  n2 : M.kind = 2 → M.next = 0 ∨ M.next = 1 ∨ M.next = 2 ∨ M.next = 3 ∨ M.next = 4 ∨ M.next = 5
  n3 : M.kind = 3 → M.next = 0 ∨ M.next = 2 ∨ M.next = 3 ∨ M.next = 4 ∨ M.next = 5

theorem hold_any (b c q n i : Nat) (ws : List Int) (st : Int) (ms : List Mach) (M : Mach) (w : World) (hS : Sys w b c q n ws st ms) (hi : ms[i]? = some M) (s0 : 0 ≤ st) (s1 : st ≤ 1000000) (ok : M.ok n) (t1 : M.tries ≤ 1000000) (hk : M.kind = 1) :
    Calls Try.prog 34 #[.pointer (some ⟨q, 15 * i, none⟩), .pointer (some ⟨b, 0, none⟩)] w fun e w' => e = .returned (.tuple #[]) ∧ Sys w' b c q n (M.stepH ws).2 (st + 1) (ms.set i (M.stepH ws).1) ∧ Frq b c q w w' := by
  unfold Mach.stepH
  have ha := ok.at1
  by_cases h0 : M.next = 0
  · rw [if_pos h0]
    by_cases hv : ws.getD M.at_ 0 = 0
    · rw [if_pos hv]; exact hold0y b c q n i ws st ms M w hS hi ha s0 s1 h0 hv
    · rw [if_neg hv]; exact hold0n b c q n i ws st ms M w hS hi ha s0 s1 h0 hv ok.t0 t1
  · rw [if_neg h0]
    by_cases h3 : M.next = 3 ∧ ¬ M.left = 0
    · rw [if_pos h3]; exact hold3 b c q n i ws st ms M w hS hi ha s0 s1 h3.1 h3.2 ok.l0 ok.l1
    · rw [if_neg h3]
      exact hold5 b c q n i ws st ms M w hS hi ha s0 s1 (by rcases ok.n1 hk with h | h | h; exact absurd h h0; exact .inr ⟨h, Classical.byContradiction fun hl => h3 ⟨h, hl⟩⟩; exact .inl h)
theorem write_any (b c q n i : Nat) (ws : List Int) (st : Int) (ms : List Mach) (M : Mach) (w : World) (hS : Sys w b c q n ws st ms) (hi : ms[i]? = some M) (s0 : 0 ≤ st) (s1 : st ≤ 1000000) (ok : M.ok n) (t1 : M.tries ≤ 1000000) (hk : M.kind = 2) :
    Calls Try.prog 35 #[.pointer (some ⟨q, 15 * i, none⟩), .pointer (some ⟨b, 0, none⟩)] w fun e w' => e = .returned (.tuple #[]) ∧ Sys w' b c q n (M.stepW ws).2 (st + 1) (ms.set i (M.stepW ws).1) ∧ Frq b c q w w' := by
  unfold Mach.stepW
  have ha := ok.at3 (by rw [hk]; omega)
  by_cases h0 : M.next = 0
  · rw [if_pos h0]
    by_cases hv : (ws.getD M.at_ 0).tmod 2 = 0
    · rw [if_pos hv]; exact write0e b c q n i ws st ms M w hS hi ha s0 s1 h0 hv
    · rw [if_neg hv]; exact write0o b c q n i ws st ms M w hS hi ha s0 s1 h0 hv ok.t0 t1
  · rw [if_neg h0]
    by_cases h1 : M.next = 1
    · rw [if_pos h1]
      by_cases hv : ws.getD M.at_ 0 = M.count
      · rw [if_pos hv]; exact write1y b c q n i ws st ms M w hS hi ha s0 s1 h1 hv
      · rw [if_neg hv]; exact write1n b c q n i ws st ms M w hS hi ha s0 s1 h1 hv ok.t0 t1
    · rw [if_neg h1]
      by_cases h2 : M.next = 2
      · rw [if_pos h2]; exact write2 b c q n i ws st ms M w hS hi ha s0 s1 h2
      · rw [if_neg h2]
        by_cases h5 : M.next = 5
        · rw [if_pos h5]; exact write5 b c q n i ws st ms M w hS hi ha s0 s1 h5
        · rw [if_neg h5]
          by_cases h3 : M.next = 3 ∧ ¬ M.left = 0
          · rw [if_pos h3]; exact write3 b c q n i ws st ms M w hS hi ha s0 s1 h3.1 h3.2 ok.l0 ok.l1
          · rw [if_neg h3]
            exact write4 b c q n i ws st ms M w hS hi ha s0 s1 (by rcases ok.n2 hk with h | h | h | h | h | h; exact absurd h h0; exact absurd h h1; exact absurd h h2; exact .inr ⟨h, Classical.byContradiction fun hl => h3 ⟨h, hl⟩⟩; exact .inl h; exact absurd h h5)
theorem read_any (b c q n i : Nat) (ws : List Int) (st : Int) (ms : List Mach) (M : Mach) (w : World) (hS : Sys w b c q n ws st ms) (hi : ms[i]? = some M) (s0 : 0 ≤ st) (s1 : st ≤ 1000000) (ok : M.ok n) (t1 : M.tries ≤ 1000000) (hk : M.kind = 3) :
    Calls Try.prog 36 #[.pointer (some ⟨q, 15 * i, none⟩), .pointer (some ⟨b, 0, none⟩)] w fun e w' => e = .returned (.tuple #[]) ∧ Sys w' b c q n (M.stepR ws).2 (st + 1) (ms.set i (M.stepR ws).1) ∧ Frq b c q w w' := by
  unfold Mach.stepR
  have ha := ok.at3 (by rw [hk]; omega)
  by_cases h0 : M.next = 0
  · rw [if_pos h0]
    by_cases hv : (ws.getD M.at_ 0).tmod 2 = 0
    · rw [if_pos hv]; exact read0e b c q n i ws st ms M w hS hi ha s0 s1 h0 hv
    · rw [if_neg hv]; exact read0o b c q n i ws st ms M w hS hi ha s0 s1 h0 hv ok.t0 t1
  · rw [if_neg h0]
    by_cases h2 : M.next = 2
    · rw [if_pos h2]; exact read2 b c q n i ws st ms M w hS hi ha s0 s1 h2
    · rw [if_neg h2]
      by_cases h5 : M.next = 5
      · rw [if_pos h5]
        by_cases hv : ws.getD M.at_ 0 = M.count
        · rw [if_pos hv]; exact read5y b c q n i ws st ms M w hS hi ha s0 s1 h5 hv
        · rw [if_neg hv]; exact read5n b c q n i ws st ms M w hS hi ha s0 s1 h5 hv ok.t0 t1
      · rw [if_neg h5]
        by_cases h3 : M.next = 3 ∧ ¬ M.left = 0
        · rw [if_pos h3]; exact read3 b c q n i ws st ms M w hS hi ha s0 s1 h3.1 h3.2 ok.l0 ok.l1
        · rw [if_neg h3]
          exact read4 b c q n i ws st ms M w hS hi ha s0 s1 (by rcases ok.n3 hk with h | h | h | h | h; exact absurd h h0; exact absurd h h2; exact .inr ⟨h, Classical.byContradiction fun hl => h3 ⟨h, hl⟩⟩; exact .inl h; exact absurd h h5)

set_option maxHeartbeats 400000 in
theorem stepm_any (b c q n i : Nat) (ws : List Int) (st : Int) (ms : List Mach) (M : Mach) (w : World) (hS : Sys w b c q n ws st ms) (hi : ms[i]? = some M) (s0 : 0 ≤ st) (s1 : st ≤ 1000000) (ok : M.ok n) (t1 : M.tries ≤ 1000000) :
    Calls Try.prog 28 #[.pointer (some ⟨q, 15 * i, none⟩), .pointer (some ⟨b, 0, none⟩)] w fun e w' => e = .returned (.tuple #[]) ∧ Sys w' b c q n (M.step ws).2 (st + 1) (ms.set i (M.step ws).1) ∧ Frq b c q w w' := by
  unfold Mach.step
  have c0 := (hS.cells hi).c0
  by_cases h1 : M.kind = 1
  · rw [if_pos h1]
    have K := hide (hold_any b c q n i ws st ms M w hS hi s0 s1 ok t1 h1)
    rw [h1] at c0
    clear h1 ok
    generalize M.stepH ws = r at *
    generalize 15 * i = p at *
    go_enter Try.func28, Try.ntmps28
    go_wp2_with fail
    refine (unhide K).mono ?_
    rintro e w2 ⟨rfl, hS2, hF2⟩
    go_wp2_with fail
    go_end0
    exact ⟨rfl, hS2, hF2⟩
  · rw [if_neg h1]
    by_cases h2 : M.kind = 2
    · rw [if_pos h2]
      have K := hide (write_any b c q n i ws st ms M w hS hi s0 s1 ok t1 h2)
      rw [h2] at c0
      clear h1 h2 ok
      generalize M.stepW ws = r at *
      generalize 15 * i = p at *
      go_enter Try.func28, Try.ntmps28
      go_wp2_with fail
      refine (unhide K).mono ?_
      rintro e w2 ⟨rfl, hS2, hF2⟩
      go_wp2_with fail
      go_end0
      exact ⟨rfl, hS2, hF2⟩
    · rw [if_neg h2]
      have h3 : M.kind = 3 := by rcases ok.kind with h | h | h; exact absurd h h1; exact absurd h h2; exact h
      have K := hide (read_any b c q n i ws st ms M w hS hi s0 s1 ok t1 h3)
      rw [h3] at c0
      clear h1 h2 h3 ok
      generalize M.stepR ws = r at *
      generalize 15 * i = p at *
      go_enter Try.func28, Try.ntmps28
      go_wp2_with fail
      refine (unhide K).mono ?_
      rintro e w2 ⟨rfl, hS2, hF2⟩
      go_wp2_with fail
      go_end0
      exact ⟨rfl, hS2, hF2⟩

theorem Frq.setNew {b c q : Nat} {u w : World} (h : Frq b c q u w) {p : Addr} (hp : u.heap.size ≤ p.block) (v : Value) : Frq b c q u (w.setCell p v) :=
  ⟨h.os, h.tape, h.output, by have := h.size; simp [World.setCell]; omega, fun k hk h1 h2 h3 => (Below.heap_setCell _ _ _ _ (by omega)).trans (h.block k hk h1 h2 h3)⟩
theorem Sys.setOther {W : World} {b c q n : Nat} {ws : List Int} {st : Int} {ms : List Mach} (h : Sys W b c q n ws st ms) {p : Addr} (h1 : b ≠ p.block) (h2 : c ≠ p.block) (h3 : q ≠ p.block) (v : Value) : Sys (W.setCell p v) b c q n ws st ms :=
  h.of (Below.heap_setCell _ _ _ _ h1) (Below.heap_setCell _ _ _ _ h2) (Below.heap_setCell _ _ _ _ h3)

/-- A run: its struct lies in block r. -/
structure Run (W : World) (r b c q n : Nat) (ws : List Int) (st : Int) (ms : List Mach) : Prop where
  sys : Sys W b c q n ws st ms
  hr : W.heap[r]? = some (.cells #[.pointer (some ⟨b, 0, none⟩), .slice (some ⟨q, 0, none⟩) ms.length ms.length] 73)
  rb : r ≠ b
  rc : r ≠ c
  rq : r ≠ q
  l8 : ms.length ≤ 8
theorem Run.rlt {W : World} {r b c q n : Nat} {ws : List Int} {st : Int} {ms : List Mach} (h : Run W r b c q n ws st ms) : r < W.heap.size := (Array.getElem?_eq_some_iff.1 h.hr).1
theorem Run.below {W W' : World} {r b c q n : Nat} {ws : List Int} {st : Int} {ms : List Mach} (h : Run W r b c q n ws st ms) (g : Below W.heap.size W W') : Run W' r b c q n ws st ms :=
  ⟨h.sys.below g, (g.block _ h.rlt).trans h.hr, h.rb, h.rc, h.rq, h.l8⟩
theorem Run.drew {W : World} {r b c q n : Nat} {ws : List Int} {st : Int} {ms : List Mach} (h : Run W r b c q n ws st ms) : Run W.drew r b c q n ws st ms :=
  ⟨h.sys.drew, h.hr, h.rb, h.rc, h.rq, h.l8⟩
theorem Run.alloc {W : World} {r b c q n : Nat} {ws : List Int} {st : Int} {ms : List Mach} (h : Run W r b c q n ws st ms) (ob : Obj) : Run (W.alloc ob) r b c q n ws st ms :=
  h.below ((Below.refl _ W).alloc (Nat.le_refl _) ob)
theorem Run.step {W W' : World} {r b c q n : Nat} {ws ws' : List Int} {st st' : Int} {ms ms' : List Mach} (h : Run W r b c q n ws st ms) (hS : Sys W' b c q n ws' st' ms') (hF : Frq b c q W W') (hl : ms'.length = ms.length) : Run W' r b c q n ws' st' ms' :=
  ⟨hS, by rw [hl]; exact (hF.block _ h.rlt h.rb h.rc h.rq).trans h.hr, h.rb, h.rc, h.rq, by rw [hl]; exact h.l8⟩
theorem Run.cells {W : World} {r b c q n : Nat} {ws : List Int} {st : Int} {ms : List Mach} (h : Run W r b c q n ws st ms) :
    W.cell? ⟨r, 0, none⟩ = some (.pointer (some ⟨b, 0, none⟩)) ∧ W.cell? ⟨r, 1, none⟩ = some (.slice (some ⟨q, 0, none⟩) ms.length ms.length) := by
  refine ⟨?_, ?_⟩ <;> rw [cell_of h.hr] <;> rfl

def Mach.told (M : Mach) : Value := .agg #[.bool M.done, .int .i64 M.sA, .int .i64 M.sB, .int .i64 M.tries]
def noState : Value := .agg #[.bool false, .int .i64 0, .int .i64 0, .int .i64 0]

set_option maxHeartbeats 400000 in
theorem step_neg (r : Nat) (j : Int) (w : World) (hj : j < 0) :
    Calls Try.prog 11 #[.pointer (some ⟨r, 0, none⟩), .int .i64 j] w fun e w' => e = .returned (.tuple #[noState, .int .i64 1]) ∧ Below w.heap.size w w' := by
  go_enter Try.func11, Try.ntmps11
  go_wp2_with fail
  exact bodyPost_ret (v := .tuple #[noState, .int .i64 1]) (by simp [results, Try.results11, go_sem, noState]) rfl ⟨rfl, (Below.refl _ _).alloc (Nat.le_refl _) _⟩

set_option maxHeartbeats 400000 in
theorem step_past (r b c q n : Nat) (ws : List Int) (st j : Int) (ms : List Mach) (w : World) (hR : Run w r b c q n ws st ms) (hj : (ms.length : Int) ≤ j) :
    Calls Try.prog 11 #[.pointer (some ⟨r, 0, none⟩), .int .i64 j] w fun e w' => e = .returned (.tuple #[noState, .int .i64 1]) ∧ Below w.heap.size w w' := by
  have l8 := hR.l8
  obtain ⟨h0, h1⟩ := hR.cells
  have hr := hR.rlt
  generalize ms.length = l at *
  have j1 : ¬ j < 0 := by omega
  have j2 : ¬ j < (l : Int) := by omega
  go_enter Try.func11, Try.ntmps11
  go_wp2_with fail
  exact bodyPost_ret (v := .tuple #[noState, .int .i64 1]) (by simp [results, Try.results11, go_sem, noState]) rfl ⟨rfl, (Below.refl _ _).alloc (Nat.le_refl _) _⟩

set_option maxHeartbeats 400000 in
theorem step_done (r b c q n i : Nat) (ws : List Int) (st : Int) (ms : List Mach) (M : Mach) (w : World) (hR : Run w r b c q n ws st ms) (hi : ms[i]? = some M) (hd : M.done = true) :
    Calls Try.prog 11 #[.pointer (some ⟨r, 0, none⟩), .int .i64 (i : Int)] w fun e w' => e = .returned (.tuple #[noState, .int .i64 16]) ∧ Below w.heap.size w w' := by
  have l8 := hR.l8
  obtain ⟨h0, h1⟩ := hR.cells
  have hr := hR.rlt
  have hq := hR.sys.qlt
  have hil := (List.getElem?_eq_some_iff.1 hi).1
  have c6 := (hR.sys.cells hi).c6
  rw [hd] at c6
  generalize ms.length = l at *
  have j1 : ¬ (i : Int) < 0 := by omega
  have j2 : (i : Int) < (l : Int) := by omega
  have e : 15 * i = i * 15 := Nat.mul_comm _ _
  rw [e] at c6
  clear e
  go_enter Try.func11, Try.ntmps11
  go_wp2_with fail
  exact bodyPost_ret (v := .tuple #[noState, .int .i64 16]) (by simp [results, Try.results11, go_sem, noState]) rfl ⟨rfl, (Below.refl _ _).alloc (Nat.le_refl _) _⟩

set_option maxHeartbeats 400000 in
theorem step_yes (r b c q n i : Nat) (ws : List Int) (st : Int) (ms : List Mach) (M : Mach) (w : World) (hR : Run w r b c q n ws st ms) (hi : ms[i]? = some M) (hd : M.done = false) (s0 : 0 ≤ st) (s1 : st ≤ 1000000) (ok : M.ok n) (t1 : M.tries ≤ 1000000) :
    Calls Try.prog 11 #[.pointer (some ⟨r, 0, none⟩), .int .i64 (i : Int)] w fun e w' => e = .returned (.tuple #[(M.step ws).1.told, .int .i64 0]) ∧ Run w' r b c q n (M.step ws).2 (st + 1) (ms.set i (M.step ws).1) ∧ Frq b c q w w' := by
  have l8 := hR.l8
  obtain ⟨h0, h1⟩ := hR.cells
  have hr := hR.rlt
  have hq := hR.sys.qlt
  have hil := (List.getElem?_eq_some_iff.1 hi).1
  have c6 := (hR.sys.cells hi).c6
  have K := hide (stepm_any b c q n i ws st ms M _ (hR.alloc (.cells #[.bool false, .int .i64 0, .int .i64 0, .int .i64 0] 33)).sys hi s0 s1 ok t1)
  rw [hd] at c6
  generalize hms : ms.length = l at *
  have HMS := hide hms
  clear hms
  have j1 : ¬ (i : Int) < 0 := by omega
  have j2 : (i : Int) < (l : Int) := by omega
  have e : 15 * i = i * 15 := Nat.mul_comm _ _
  rw [e] at c6 K
  have HE := hide e
  clear e ok
  generalize hN : M.step ws = N at *
  have HN := hide hN
  clear hN
  go_enter Try.func11, Try.ntmps11
  go_wp2_with fail
  refine (unhide K).mono ?_
  rintro e w2 ⟨rfl, hS2, hF2⟩
  obtain ⟨d0, d1, d2, d3, d4, d5, d6, d7, d8, d9, d10, d11, d12, d13, d14, fd⟩ := hS2.cells (set_get hi _)
  rw [unhide HE] at d0 d1 d2 d3 d4 d5 d6 d7 d8 d9 d10 d11 d12 d13 d14
  have hb := hR.sys.blt
  have hc := hR.sys.clt
  have hg := (hF2.block w.heap.size (by simp) (by omega) (by omega) (by omega)).trans (putAll _ _ rfl)
  have g0 := cell_of hg 0
  have g1 := cell_of hg 1
  have g2 := cell_of hg 2
  have g3 := cell_of hg 3
  have gf := frozen_of hg
  have HG := hide hg
  simp at g0 g1 g2 g3
  have gq : w.heap.size ≠ q := by omega
  clear h0 h1 c6 hg
  generalize hs : w.heap.size = g at *
  have HS := hide hs
  clear hs
  go_wp2_with fail
  have b1 : b ≠ g := by omega
  have b2 : c ≠ g := by omega
  have b3 : q ≠ g := by omega
  have hF : Frq b c q w w2 := (Frq.of_below ((Below.refl _ w).alloc (Nat.le_refl _) _)).trans hF2
  have z : w.heap.size ≤ g := by rw [unhide HS]; omega
  have hF4 : Frq b c q w ((((w2.setCell ⟨g, 0, none⟩ (.bool N.1.done)).setCell ⟨g, 1, none⟩ (.int .i64 N.1.sA)).setCell ⟨g, 2, none⟩ (.int .i64 N.1.sB)).setCell ⟨g, 3, none⟩ (.int .i64 N.1.tries)) :=
    (((hF.setNew (p := ⟨g, 0, none⟩) z _).setNew (p := ⟨g, 1, none⟩) z _).setNew (p := ⟨g, 2, none⟩) z _).setNew (p := ⟨g, 3, none⟩) z _
  have hS4 : Sys ((((w2.setCell ⟨g, 0, none⟩ (.bool N.1.done)).setCell ⟨g, 1, none⟩ (.int .i64 N.1.sA)).setCell ⟨g, 2, none⟩ (.int .i64 N.1.sB)).setCell ⟨g, 3, none⟩ (.int .i64 N.1.tries)) b c q n N.2 (st + 1) (ms.set i N.1) :=
    (((hS2.setOther (p := ⟨g, 0, none⟩) b1 b2 b3 _).setOther (p := ⟨g, 1, none⟩) b1 b2 b3 _).setOther (p := ⟨g, 2, none⟩) b1 b2 b3 _).setOther (p := ⟨g, 3, none⟩) b1 b2 b3 _
  refine bodyPost_ret (v := .tuple #[N.1.told, .int .i64 0]) (by simp [results, Try.results11, go_sem, Mach.told, *]) rfl ⟨rfl, hR.step hS4 hF4 (by simp), hF4⟩
end Go.Proofs.Ytkgeapmafpeapaa
