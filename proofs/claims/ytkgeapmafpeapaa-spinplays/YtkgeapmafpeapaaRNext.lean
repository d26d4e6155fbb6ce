/-
  The document's run: the contracts of next and work.
-/
import Derived.Test.YtkgeapmafpeapaaRSet
namespace Go.Proofs.Ytkgeapmafpeapaa
open Go.RowKit
attribute [local go_sem ↓] Go.wp_at_zero Go.wp_at_succ

theorem ints_cell {α : Type} {f : α → Int} {W : World} {g k : Nat} {xs : List α} {x : α} {T : TypeId} (h : W.heap[g]? = some (.cells (xs.map (fun x => Value.int .i64 (f x))).toArray T)) (hk : xs[k]? = some x) : W.cell? ⟨g, k, none⟩ = some (.int .i64 (f x)) := by
  rw [cell_of h]; simp [hk]

set_option maxRecDepth 100000 in
set_option maxHeartbeats 1000000 in
theorem rnext_pos (rr b c aa ca la sa n cap k : Nat) (jp : Option Addr) (ws : List Int) (st wk on : Int) (xs : List RJ) (x : RJ) (w : World) (h : RSys w rr b c aa ca la sa n jp cap ws st xs) (hk : xs[k]? = some x) (hw : 0 < x.job.work) :
    Calls Try.prog 38 #[.pointer (some ⟨rr, 0, none⟩), .int .i64 (k : Int), .int .i64 wk, .int .i64 on] w fun e w' => e = .returned (.tuple #[]) ∧ RSys w' rr b c aa ca la sa n jp cap ws st (xs.set k { x with pl := wk, lft := x.job.work }) ∧ FrR b c aa ca la sa w w' := by
  have l8 := h.l8
  have hkl := (List.getElem?_eq_some_iff.1 hk).1
  have j1 : (k : Int) < (xs.length : Int) := by omega
  have j0 : (0 : Int) ≤ (k : Int) := by omega
  have A1 := ints_cell h.ha hk
  have A2 := frozen_of h.ha
  have h1 := h.setPl hk on
  have F1 : FrR b c aa ca la sa w (w.setCell ⟨aa, k, none⟩ (.int .i64 on)) := (FrR.refl b c aa ca la sa w).set (.inl rfl) _
  have hx1 := get_set hk { x with pl := on }
  obtain ⟨r0, r1, r2, r3, r4, r5⟩ := h.rcells
  have hl1 : (xs.set k { x with pl := on }).length = xs.length := by simp
  have H1 := hide h1
  have HF1 := hide F1
  have HX1 := hide hx1
  have HLN := hide hl1
  clear h1 F1 hx1 hl1
  generalize hll : xs.length = l at *
  have HLL := hide hll
  clear hll
  go_enter Try.func38, Try.ntmps38
  go_wp2_with fail
  clear r0 r1 r2 r3 r4 r5 A1 A2
  have h1 := unhide H1
  have F1 := unhide HF1
  generalize w.setCell ⟨aa, k, none⟩ (.int .i64 on) = w1 at *
  obtain ⟨r0, r1, r2, r3, r4, r5⟩ := h1.rcells
  rw [unhide HLN] at r1 r2 r3 r4 r5
  obtain ⟨jb, jo, rfl, hjl, c0, c1, c2, c3, c4⟩ := h1.hj k x.job (by rw [List.getElem?_map, unhide HX1]; rfl)
  have L1 := ints_cell h1.hl (unhide HX1)
  have L2 := frozen_of h1.hl
  have np := (h1.hp _ rfl).2.2.2.2.1
  have nr := h1.nr.2.2.2.2.1
  have n1 : la ≠ rr := Ne.symm nr
  have n2 : la ≠ jb := Ne.symm np
  simp only [] at L1
  go_region_held3 (fun w' => w'.cell? ⟨rr, 1, none⟩ = some (.slice (some ⟨jb, jo, none⟩) l cap) ∧ w'.cell? ⟨rr, 4, none⟩ = some (.slice (some ⟨la, 0, none⟩) l l) ∧ w'.cell? ⟨jb, jo + k * 5 + 2, none⟩ = some (.int .i64 x.job.work)) (first | ((try dsimp only); refine ⟨?_, ?_, ?_⟩ <;> (simp [World.cell?_setCell_other, *]; done)) | fail) (fail)
  have h2 := (h1.setLft (unhide HX1) x.job.work).drew
  have F2 := (F1.set (p := ⟨la, k, none⟩) (.inr (.inr (.inl rfl))) (.int .i64 x.job.work)).drew
  have hx2 := get_set (unhide HX1) { x with pl := on, lft := x.job.work }
  rw [List.set_set] at h2 hx2
  have hl2 : (xs.set k { x with pl := on, lft := x.job.work }).length = l := by simp [unhide HLL]
  rename_i hS
  clear hS r0 r1 r2 r3 r4 r5 L1 L2 c0 c1 c2 c3 c4 h1 H1 F1 HF1
  generalize (w1.setCell ⟨la, k, none⟩ (.int .i64 x.job.work)).drew = w2 at *
  obtain ⟨r0, r1, r2, r3, r4, r5⟩ := h2.rcells
  rw [hl2] at r1 r2 r3 r4 r5
  have L1 := ints_cell h2.hl hx2
  have A1 := ints_cell h2.ha hx2
  have A2 := frozen_of h2.ha
  simp only [] at L1 A1
  have R := h2.setPl hx2 wk
  have F3 : FrR b c aa ca la sa w (w2.setCell ⟨aa, k, none⟩ (.int .i64 wk)) := F2.set (.inl rfl) _
  rw [List.set_set] at R
  have HR := hide R
  have HF3 := hide F3
  clear R F3 h2 F2 hx2 hl2
  go_wp2_with fail
  go_end0
  exact ⟨rfl, unhide HR, unhide HF3⟩

set_option maxRecDepth 100000 in
set_option maxHeartbeats 1000000 in
theorem rnext_zero (rr b c aa ca la sa n cap k : Nat) (jp : Option Addr) (ws : List Int) (st wk on : Int) (xs : List RJ) (x : RJ) (w : World) (h : RSys w rr b c aa ca la sa n jp cap ws st xs) (hk : xs[k]? = some x) (hw : x.job.work = 0) :
    Calls Try.prog 38 #[.pointer (some ⟨rr, 0, none⟩), .int .i64 (k : Int), .int .i64 wk, .int .i64 on] w fun e w' => e = .returned (.tuple #[]) ∧ RSys w' rr b c aa ca la sa n jp cap ws st (xs.set k { x with pl := on, lft := x.job.work }) ∧ FrR b c aa ca la sa w w' := by
  have HW := hide hw
  clear hw
  have l8 := h.l8
  have hkl := (List.getElem?_eq_some_iff.1 hk).1
  have j1 : (k : Int) < (xs.length : Int) := by omega
  have j0 : (0 : Int) ≤ (k : Int) := by omega
  have A1 := ints_cell h.ha hk
  have A2 := frozen_of h.ha
  have h1 := h.setPl hk on
  have F1 : FrR b c aa ca la sa w (w.setCell ⟨aa, k, none⟩ (.int .i64 on)) := (FrR.refl b c aa ca la sa w).set (.inl rfl) _
  have hx1 := get_set hk { x with pl := on }
  obtain ⟨r0, r1, r2, r3, r4, r5⟩ := h.rcells
  have hl1 : (xs.set k { x with pl := on }).length = xs.length := by simp
  have H1 := hide h1
  have HF1 := hide F1
  have HX1 := hide hx1
  have HLN := hide hl1
  clear h1 F1 hx1 hl1
  generalize hll : xs.length = l at *
  have HLL := hide hll
  clear hll
  go_enter Try.func38, Try.ntmps38
  go_wp2_with fail
  clear r0 r1 r2 r3 r4 r5 A1 A2
  have h1 := unhide H1
  have F1 := unhide HF1
  generalize w.setCell ⟨aa, k, none⟩ (.int .i64 on) = w1 at *
  obtain ⟨r0, r1, r2, r3, r4, r5⟩ := h1.rcells
  rw [unhide HLN] at r1 r2 r3 r4 r5
  obtain ⟨jb, jo, rfl, hjl, c0, c1, c2, c3, c4⟩ := h1.hj k x.job (by rw [List.getElem?_map, unhide HX1]; rfl)
  have L1 := ints_cell h1.hl (unhide HX1)
  have L2 := frozen_of h1.hl
  have np := (h1.hp _ rfl).2.2.2.2.1
  have nr := h1.nr.2.2.2.2.1
  have n1 : la ≠ rr := Ne.symm nr
  have n2 : la ≠ jb := Ne.symm np
  simp only [] at L1
  go_region_held3 (fun w' => w'.cell? ⟨rr, 1, none⟩ = some (.slice (some ⟨jb, jo, none⟩) l cap) ∧ w'.cell? ⟨rr, 4, none⟩ = some (.slice (some ⟨la, 0, none⟩) l l) ∧ w'.cell? ⟨jb, jo + k * 5 + 2, none⟩ = some (.int .i64 x.job.work)) (first | ((try dsimp only); refine ⟨?_, ?_, ?_⟩ <;> (simp [World.cell?_setCell_other, *]; done)) | fail) (fail)
  have h2 := (h1.setLft (unhide HX1) x.job.work).drew
  have F2 := (F1.set (p := ⟨la, k, none⟩) (.inr (.inr (.inl rfl))) (.int .i64 x.job.work)).drew
  have hx2 := get_set (unhide HX1) { x with pl := on, lft := x.job.work }
  rw [List.set_set] at h2 hx2
  have hl2 : (xs.set k { x with pl := on, lft := x.job.work }).length = l := by simp [unhide HLL]
  rename_i hS
  clear hS r0 r1 r2 r3 r4 r5 L1 L2 c0 c1 c2 c3 c4 h1 H1 F1 HF1
  generalize (w1.setCell ⟨la, k, none⟩ (.int .i64 x.job.work)).drew = w2 at *
  obtain ⟨r0, r1, r2, r3, r4, r5⟩ := h2.rcells
  rw [hl2] at r1 r2 r3 r4 r5
  have L1 := ints_cell h2.hl hx2
  simp only [] at L1
  rw [unhide HW] at L1
  have HR := hide h2
  have HF3 := hide F2
  clear h2 F2 hx2 hl2
  go_wp2_with fail
  go_end0
  exact ⟨rfl, unhide HR, unhide HF3⟩

set_option maxRecDepth 100000 in
set_option maxHeartbeats 1000000 in
theorem rwork (rr b c aa ca la sa n cap k at0 : Nat) (jp : Option Addr) (ws : List Int) (st on : Int) (xs : List RJ) (x : RJ) (w : World) (h : RSys w rr b c aa ca la sa n jp cap ws st xs) (hk : xs[k]? = some x) (hat : x.job.at_ = (at0 : Int)) (hn : at0 < n) (s0 : 0 ≤ st) (s1 : st ≤ 1000000) (f0 : 1 ≤ x.lft) (f1 : x.lft ≤ 100) :
    Calls Try.prog 39 #[.pointer (some ⟨rr, 0, none⟩), .int .i64 (k : Int), .int .i64 on] w fun e w' => e = .returned (.tuple #[]) ∧ RSys w' rr b c aa ca la sa n jp cap ws (st + 1) (xs.set k { x with pl := if x.lft = 1 then on else x.pl, lft := x.lft - 1 }) ∧ FrR b c aa ca la sa w w' := by
  have l8 := h.l8
  have hkl := (List.getElem?_eq_some_iff.1 hk).1
  have j1 : (k : Int) < (xs.length : Int) := by omega
  have j0 : (0 : Int) ≤ (k : Int) := by omega
  have K := hide (rload rr b c aa ca la sa n cap k 0 at0 jp ws st xs x w h hk hat (by omega) (by omega) s0 s1 _ rfl)
  clear hat hn
  by_cases hf : x.lft = 1
  · rw [if_pos hf]
    go_enter Try.func39, Try.ntmps39
    go_wp2_with fail
    refine (unhide K).mono ?_
    rintro e w1 ⟨rfl, h1, F1⟩
    obtain ⟨r0, r1, r2, r3, r4, r5⟩ := h1.rcells
    have L1 := ints_cell h1.hl hk
    have L2 := frozen_of h1.hl
    have h2 := h1.setLft hk (x.lft - 1)
    have F2 : FrR b c aa ca la sa w (w1.setCell ⟨la, k, none⟩ (.int .i64 (x.lft - 1))) := F1.set (.inr (.inr (.inl rfl))) _
    have hx2 := get_set hk { x with lft := x.lft - 1 }
    have hl2 : (xs.set k { x with lft := x.lft - 1 }).length = xs.length := by simp
    have A1 := ints_cell h2.ha hx2
    have A2 := frozen_of h2.ha
    have n1 : aa ≠ la := h1.na.2.2.2.1
    have n2 : rr ≠ la := h1.nr.2.2.2.2.1
    have a1 := ints_cell h1.ha hk
    have a2 := frozen_of h1.ha
    have R := h2.setPl hx2 on
    rw [List.set_set] at R
    have F3 : FrR b c aa ca la sa w ((w1.setCell ⟨la, k, none⟩ (.int .i64 (x.lft - 1))).setCell ⟨aa, k, none⟩ (.int .i64 on)) := F2.set (.inl rfl) _
    rw [hf] at L1 R F3
    have HR := hide R
    have HF3 := hide F3
    clear R F3 h2 F2 hx2 hl2 A1 A2
    generalize xs.length = l at *
    go_wp2_with fail
    go_end0
    rw [hf]
    exact ⟨rfl, unhide HR, unhide HF3⟩
  · rw [if_neg hf]
    go_enter Try.func39, Try.ntmps39
    go_wp2_with fail
    refine (unhide K).mono ?_
    rintro e w1 ⟨rfl, h1, F1⟩
    obtain ⟨r0, r1, r2, r3, r4, r5⟩ := h1.rcells
    have L1 := ints_cell h1.hl hk
    have L2 := frozen_of h1.hl
    have h2 := h1.setLft hk (x.lft - 1)
    have F2 : FrR b c aa ca la sa w (w1.setCell ⟨la, k, none⟩ (.int .i64 (x.lft - 1))) := F1.set (.inr (.inr (.inl rfl))) _
    have hx2 := get_set hk { x with lft := x.lft - 1 }
    have hl2 : (xs.set k { x with lft := x.lft - 1 }).length = xs.length := by simp
    have A1 := ints_cell h2.ha hx2
    have A2 := frozen_of h2.ha
    have n1 : aa ≠ la := h1.na.2.2.2.1
    have n2 : rr ≠ la := h1.nr.2.2.2.2.1
    have a1 := ints_cell h1.ha hk
    have a2 := frozen_of h1.ha
    have hf1 : (x.lft - 1 == 0) = false := by simp; omega
    have HR := hide h2
    have HF3 := hide F2
    clear h2 F2 hx2 hl2 A1 A2 hf
    generalize xs.length = l at *
    go_wp2_with fail
    go_end0
    exact ⟨rfl, unhide HR, unhide HF3⟩
end Go.Proofs.Ytkgeapmafpeapaa
