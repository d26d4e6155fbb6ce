/-
  The document's run: the contract of a holder's step.
-/
import Derived.Test.YtkgeapmafpeapaaRNext
namespace Go.Proofs.Ytkgeapmafpeapaa
open Go.RowKit
attribute [local go_sem ↓] Go.wp_at_zero Go.wp_at_succ

set_option maxRecDepth 100000 in
set_option maxHeartbeats 1000000 in
theorem rhold1 (rr b c aa ca la sa n cap k at0 : Nat) (jp : Option Addr) (ws : List Int) (st : Int) (xs : List RJ) (x : RJ) (w : World) (h : RSys w rr b c aa ca la sa n jp cap ws st xs) (hk : xs[k]? = some x) (hat : x.job.at_ = (at0 : Int)) (hn : at0 < n) (s0 : 0 ≤ st) (s1 : st ≤ 1000000) (hp : x.pl = 1) (f0 : 1 ≤ x.lft) (f1 : x.lft ≤ 100) :
    Calls Try.prog 29 #[.pointer (some ⟨rr, 0, none⟩), .int .i64 (k : Int)] w fun e w' => e = .returned (.tuple #[]) ∧ RSys w' rr b c aa ca la sa n jp cap (ws) (st + 1) (xs.set k ({ x with pl := if x.lft = 1 then 2 else x.pl, lft := x.lft - 1 })) ∧ FrR b c aa ca la sa w w' := by
  have K := hide (rwork rr b c aa ca la sa n cap k at0 jp ws st 2 xs x w h hk hat hn s0 s1 f0 f1)
  have l8 := h.l8
  have hkl := (List.getElem?_eq_some_iff.1 hk).1
  have j1 : (k : Int) < (xs.length : Int) := by omega
  have j0 : (0 : Int) ≤ (k : Int) := by omega
  obtain ⟨r0, r1, r2, r3, r4, r5⟩ := h.rcells
  have A1 := ints_cell h.ha hk
  rw [hp] at A1
  clear hp
  clear hat hn
  generalize ({ x with pl := if x.lft = 1 then 2 else x.pl, lft := x.lft - 1 } : RJ) = x' at *
  generalize xs.length = l at *
  go_enter Try.func29, Try.ntmps29
  go_wp2_with fail
  refine (unhide K).mono ?_
  rintro e w1 ⟨rfl, h1, F1⟩
  have H1 := hide h1
  have HF1 := hide F1
  clear h1 F1
  go_wp2_with fail
  go_end0
  exact ⟨rfl, unhide H1, unhide HF1⟩

set_option maxRecDepth 100000 in
set_option maxHeartbeats 1000000 in
theorem rhold2 (rr b c aa ca la sa n cap k at0 : Nat) (jp : Option Addr) (ws : List Int) (st : Int) (xs : List RJ) (x : RJ) (w : World) (h : RSys w rr b c aa ca la sa n jp cap ws st xs) (hk : xs[k]? = some x) (hat : x.job.at_ = (at0 : Int)) (hn : at0 < n) (s0 : 0 ≤ st) (s1 : st ≤ 1000000) (hp : x.pl = 2) :
    Calls Try.prog 29 #[.pointer (some ⟨rr, 0, none⟩), .int .i64 (k : Int)] w fun e w' => e = .returned (.tuple #[]) ∧ RSys w' rr b c aa ca la sa n jp cap (ws.set at0 0) (st + 1) (xs.set k ({ x with st := { x.st with done := true } })) ∧ FrR b c aa ca la sa w w' := by
  have K := hide (rstore rr b c aa ca la sa n cap k 0 at0 jp ws st 0 xs x w h hk hat (by omega) (by omega) s0 s1)
  have l8 := h.l8
  have hkl := (List.getElem?_eq_some_iff.1 hk).1
  have j1 : (k : Int) < (xs.length : Int) := by omega
  have j0 : (0 : Int) ≤ (k : Int) := by omega
  obtain ⟨r0, r1, r2, r3, r4, r5⟩ := h.rcells
  have A1 := ints_cell h.ha hk
  rw [hp] at A1
  clear hp
  clear hat hn
  generalize hll : xs.length = l at *
  have HLL := hide hll
  clear hll
  go_enter Try.func29, Try.ntmps29
  go_wp2_with fail
  refine (unhide K).mono ?_
  rintro e w1 ⟨rfl, h1, F1⟩
  clear r0 r1 r2 r3 r4 r5 A1
  obtain ⟨r0, r1, r2, r3, r4, r5⟩ := h1.rcells
  rw [unhide HLL] at r1 r2 r3 r4 r5
  have hks : (xs.map RJ.st)[k]? = some x.st := by simp [hk]
  have S0 := rows_cell St.row_length h1.hs hks 0 (by omega)
  replace S0 : w1.cell? ⟨sa, k * 4, none⟩ = some (.bool x.st.done) := S0
  have S2 := frozen_of h1.hs
  have R := h1.setSt hk 0 (by omega) (.bool true) { x.st with done := true } rfl
  have F2 : FrR b c aa ca la sa w (w1.setCell ⟨sa, k * 4 + 0, none⟩ (.bool true)) := F1.set (.inr (.inr (.inr rfl))) _
  have HR := hide R
  have HF2 := hide F2
  clear R F2 h1 F1 hks
  go_wp2_with fail
  go_end0
  exact ⟨rfl, unhide HR, unhide HF2⟩

set_option maxRecDepth 100000 in
set_option maxHeartbeats 1000000 in
theorem rhold0n (rr b c aa ca la sa n cap k at0 : Nat) (jp : Option Addr) (ws : List Int) (st : Int) (xs : List RJ) (x : RJ) (w : World) (h : RSys w rr b c aa ca la sa n jp cap ws st xs) (hk : xs[k]? = some x) (hat : x.job.at_ = (at0 : Int)) (hn : at0 < n) (s0 : 0 ≤ st) (s1 : st ≤ 1000000) (hp : x.pl = 0) (hv : ¬ ws.getD at0 0 = 0) (t0 : 0 ≤ x.st.tries) (t1 : x.st.tries ≤ 1000000) :
    Calls Try.prog 29 #[.pointer (some ⟨rr, 0, none⟩), .int .i64 (k : Int)] w fun e w' => e = .returned (.tuple #[]) ∧ RSys w' rr b c aa ca la sa n jp cap (ws) (st + 1) (xs.set k ({ x with st := { x.st with tries := x.st.tries + 1 } })) ∧ FrR b c aa ca la sa w w' := by
  have l8 := h.l8
  have hkl := (List.getElem?_eq_some_iff.1 hk).1
  have j1 : (k : Int) < (xs.length : Int) := by omega
  have j0 : (0 : Int) ≤ (k : Int) := by omega
  obtain ⟨r0, r1, r2, r3, r4, r5⟩ := h.rcells
  have A1 := ints_cell h.ha hk
  rw [hp] at A1
  clear hp
  obtain ⟨jb, jo, rfl, hjl, c0, c1, c2, c3, c4⟩ := h.hj k x.job (by simp [hk])
  rw [hat] at c1
  obtain ⟨kk, a, o, v, d, hm0⟩ := h.drew.mem
  have HK := hide (do3_n b c n at0 ws st kk a o v d 0 (IntKind.i64.wrap ((k : Int) + 1)) w.drew hm0 hn s0 s1 _ rfl hv)
  have hrl : rr < w.drew.heap.size := (Array.getElem?_eq_some_iff.1 h.hr).1
  have hjl' : jb < w.drew.heap.size := hjl
  have nr1 := h.nr.1
  have nr2 := h.nr.2.1
  have np1 := (h.hp _ rfl).1
  have np2 := (h.hp _ rfl).2.1
  clear hat hm0 hn hv l8
  generalize hll : xs.length = l at *
  have HLL := hide hll
  clear hll
  generalize ws.getD at0 0 = held at *
  go_enter Try.func29, Try.ntmps29
  go_wp2_with fail
  go_region_held3 (fun w' => w'.cell? ⟨rr, 0, none⟩ = some (.pointer (some ⟨b, 0, none⟩)) ∧ w'.cell? ⟨rr, 1, none⟩ = some (.slice (some ⟨jb, jo, none⟩) l cap) ∧ w'.cell? ⟨jb, jo + k * 5 + 1, none⟩ = some (.int .i64 (at0 : Int))) (go_keep)
    (first | (go_at_call 37; refine (unhide HK).mono ?_; rintro e w1 ⟨rfl, hM1, hF1⟩; have v0 := (World.cell?_of_block (w := w.drew) (a := ⟨rr, 0, none⟩) (hF1.block rr hrl nr1 nr2)).trans r0; have v1 := (World.cell?_of_block (w := w.drew) (a := ⟨rr, 1, none⟩) (hF1.block rr hrl nr1 nr2)).trans r1; have v2 := (World.cell?_of_block (w := w.drew) (a := ⟨jb, jo + k * 5 + 1, none⟩) (hF1.block jb hjl' np1 np2)).trans c1))
  have h1 := h.drew.acc ⟨_, _, _, _, _, hM1⟩ hF1
  have F1 := (FrR.refl b c aa ca la sa w).drew.trans (.of_frm (aa := aa) (ca := ca) (la := la) (sa := sa) hF1)
  clear r0 r1 r2 r3 r4 r5 A1 v0 v1 v2
  obtain ⟨r0, r1, r2, r3, r4, r5⟩ := h1.rcells
  rw [unhide HLL] at r1 r2 r3 r4 r5
  have hks : (xs.map RJ.st)[k]? = some x.st := by simp [hk]
  have S0 := rows_cell St.row_length h1.hs hks 3 (by omega)
  replace S0 : w1.cell? ⟨sa, k * 4 + 3, none⟩ = some (.int .i64 x.st.tries) := S0
  have S2 := frozen_of h1.hs
  have R := h1.setSt hk 3 (by omega) (.int .i64 (x.st.tries + 1)) { x.st with tries := x.st.tries + 1 } rfl
  have F2 : FrR b c aa ca la sa w (w1.setCell ⟨sa, k * 4 + 3, none⟩ (.int .i64 (x.st.tries + 1))) := F1.set (.inr (.inr (.inr rfl))) _
  have HR := hide R
  have HF2 := hide F2
  clear R F2 h1 F1 hks
  go_wp2_with fail
  refine bodyPost_ret (results_none rfl _ _ _) rfl ?_
  exact ⟨rfl, unhide HR, unhide HF2⟩

set_option maxRecDepth 100000 in
set_option maxHeartbeats 1000000 in
theorem rhold0y (rr b c aa ca la sa n cap k at0 : Nat) (jp : Option Addr) (ws : List Int) (st : Int) (xs : List RJ) (x : RJ) (w : World) (h : RSys w rr b c aa ca la sa n jp cap ws st xs) (hk : xs[k]? = some x) (hat : x.job.at_ = (at0 : Int)) (hn : at0 < n) (s0 : 0 ≤ st) (s1 : st ≤ 1000000) (hp : x.pl = 0) (hv : ws.getD at0 0 = 0) (hw : 0 < x.job.work) :
    Calls Try.prog 29 #[.pointer (some ⟨rr, 0, none⟩), .int .i64 (k : Int)] w fun e w' => e = .returned (.tuple #[]) ∧ RSys w' rr b c aa ca la sa n jp cap (ws.set at0 (IntKind.i64.wrap ((k : Int) + 1))) (st + 1) (xs.set k ({ x with pl := 1, lft := x.job.work })) ∧ FrR b c aa ca la sa w w' := by
  have HW := hide hw
  clear hw
  have l8 := h.l8
  have hkl := (List.getElem?_eq_some_iff.1 hk).1
  have j1 : (k : Int) < (xs.length : Int) := by omega
  have j0 : (0 : Int) ≤ (k : Int) := by omega
  obtain ⟨r0, r1, r2, r3, r4, r5⟩ := h.rcells
  have A1 := ints_cell h.ha hk
  rw [hp] at A1
  clear hp
  obtain ⟨jb, jo, rfl, hjl, c0, c1, c2, c3, c4⟩ := h.hj k x.job (by simp [hk])
  rw [hat] at c1
  obtain ⟨kk, a, o, v, d, hm0⟩ := h.drew.mem
  have HK := hide (do3_y b c n at0 ws st kk a o v d 0 (IntKind.i64.wrap ((k : Int) + 1)) w.drew hm0 hn s0 s1 0 hv rfl)
  have hrl : rr < w.drew.heap.size := (Array.getElem?_eq_some_iff.1 h.hr).1
  have hjl' : jb < w.drew.heap.size := hjl
  have nr1 := h.nr.1
  have nr2 := h.nr.2.1
  have np1 := (h.hp _ rfl).1
  have np2 := (h.hp _ rfl).2.1
  clear hat hm0 hn hv l8
  generalize hll : xs.length = l at *
  clear hll
  go_enter Try.func29, Try.ntmps29
  go_wp2_with fail
  go_region_held3 (fun w' => w'.cell? ⟨rr, 0, none⟩ = some (.pointer (some ⟨b, 0, none⟩)) ∧ w'.cell? ⟨rr, 1, none⟩ = some (.slice (some ⟨jb, jo, none⟩) l cap) ∧ w'.cell? ⟨jb, jo + k * 5 + 1, none⟩ = some (.int .i64 (at0 : Int))) (go_keep)
    (first | (go_at_call 37; refine (unhide HK).mono ?_; rintro e w1 ⟨rfl, hM1, hF1⟩; have v0 := (World.cell?_of_block (w := w.drew) (a := ⟨rr, 0, none⟩) (hF1.block rr hrl nr1 nr2)).trans r0; have v1 := (World.cell?_of_block (w := w.drew) (a := ⟨rr, 1, none⟩) (hF1.block rr hrl nr1 nr2)).trans r1; have v2 := (World.cell?_of_block (w := w.drew) (a := ⟨jb, jo + k * 5 + 1, none⟩) (hF1.block jb hjl' np1 np2)).trans c1))
  have h1 := h.drew.acc ⟨_, _, _, _, _, hM1⟩ hF1
  have F1 := (FrR.refl b c aa ca la sa w).drew.trans (.of_frm (aa := aa) (ca := ca) (la := la) (sa := sa) hF1)
  clear r0 r1 r2 r3 r4 r5 A1 v0 v1 v2
  have K2 := hide (rnext_pos rr b c aa ca la sa n cap k _ _ _ 1 2 xs x w1 h1 hk (unhide HW))
  clear h1
  go_wp2_with fail
  refine (unhide K2).mono ?_
  rintro e w2 ⟨rfl, h2, F2⟩
  have H2 := hide h2
  have HF2 := hide (F1.trans F2)
  clear h2 F2 F1
  go_wp2_with fail
  go_end0
  exact ⟨rfl, unhide H2, unhide HF2⟩

set_option maxRecDepth 100000 in
set_option maxHeartbeats 1000000 in
theorem rhold0z (rr b c aa ca la sa n cap k at0 : Nat) (jp : Option Addr) (ws : List Int) (st : Int) (xs : List RJ) (x : RJ) (w : World) (h : RSys w rr b c aa ca la sa n jp cap ws st xs) (hk : xs[k]? = some x) (hat : x.job.at_ = (at0 : Int)) (hn : at0 < n) (s0 : 0 ≤ st) (s1 : st ≤ 1000000) (hp : x.pl = 0) (hv : ws.getD at0 0 = 0) (hw : x.job.work = 0) :
    Calls Try.prog 29 #[.pointer (some ⟨rr, 0, none⟩), .int .i64 (k : Int)] w fun e w' => e = .returned (.tuple #[]) ∧ RSys w' rr b c aa ca la sa n jp cap (ws.set at0 (IntKind.i64.wrap ((k : Int) + 1))) (st + 1) (xs.set k ({ x with pl := 2, lft := x.job.work })) ∧ FrR b c aa ca la sa w w' := by
  have HW := hide hw
  clear hw
  have l8 := h.l8
  have hkl := (List.getElem?_eq_some_iff.1 hk).1
  have j1 : (k : Int) < (xs.length : Int) := by omega
  have j0 : (0 : Int) ≤ (k : Int) := by omega
  obtain ⟨r0, r1, r2, r3, r4, r5⟩ := h.rcells
  have A1 := ints_cell h.ha hk
  rw [hp] at A1
  clear hp
  obtain ⟨jb, jo, rfl, hjl, c0, c1, c2, c3, c4⟩ := h.hj k x.job (by simp [hk])
  rw [hat] at c1
  obtain ⟨kk, a, o, v, d, hm0⟩ := h.drew.mem
  have HK := hide (do3_y b c n at0 ws st kk a o v d 0 (IntKind.i64.wrap ((k : Int) + 1)) w.drew hm0 hn s0 s1 0 hv rfl)
  have hrl : rr < w.drew.heap.size := (Array.getElem?_eq_some_iff.1 h.hr).1
  have hjl' : jb < w.drew.heap.size := hjl
  have nr1 := h.nr.1
  have nr2 := h.nr.2.1
  have np1 := (h.hp _ rfl).1
  have np2 := (h.hp _ rfl).2.1
  clear hat hm0 hn hv l8
  generalize hll : xs.length = l at *
  clear hll
  go_enter Try.func29, Try.ntmps29
  go_wp2_with fail
  go_region_held3 (fun w' => w'.cell? ⟨rr, 0, none⟩ = some (.pointer (some ⟨b, 0, none⟩)) ∧ w'.cell? ⟨rr, 1, none⟩ = some (.slice (some ⟨jb, jo, none⟩) l cap) ∧ w'.cell? ⟨jb, jo + k * 5 + 1, none⟩ = some (.int .i64 (at0 : Int))) (go_keep)
    (first | (go_at_call 37; refine (unhide HK).mono ?_; rintro e w1 ⟨rfl, hM1, hF1⟩; have v0 := (World.cell?_of_block (w := w.drew) (a := ⟨rr, 0, none⟩) (hF1.block rr hrl nr1 nr2)).trans r0; have v1 := (World.cell?_of_block (w := w.drew) (a := ⟨rr, 1, none⟩) (hF1.block rr hrl nr1 nr2)).trans r1; have v2 := (World.cell?_of_block (w := w.drew) (a := ⟨jb, jo + k * 5 + 1, none⟩) (hF1.block jb hjl' np1 np2)).trans c1))
  have h1 := h.drew.acc ⟨_, _, _, _, _, hM1⟩ hF1
  have F1 := (FrR.refl b c aa ca la sa w).drew.trans (.of_frm (aa := aa) (ca := ca) (la := la) (sa := sa) hF1)
  clear r0 r1 r2 r3 r4 r5 A1 v0 v1 v2
  have K2 := hide (rnext_zero rr b c aa ca la sa n cap k _ _ _ 1 2 xs x w1 h1 hk (unhide HW))
  clear h1
  go_wp2_with fail
  refine (unhide K2).mono ?_
  rintro e w2 ⟨rfl, h2, F2⟩
  have H2 := hide h2
  have HF2 := hide (F1.trans F2)
  clear h2 F2 F1
  go_wp2_with fail
  go_end0
  exact ⟨rfl, unhide H2, unhide HF2⟩
end Go.Proofs.Ytkgeapmafpeapaa
