/-
  The document's run: the contracts of a reader's step.
-/
import Derived.Test.YtkgeapmafpeapaaRFacts
namespace Go.Proofs.Ytkgeapmafpeapaa
open Go.RowKit
attribute [local go_sem ↓] Go.wp_at_zero Go.wp_at_succ

set_option maxRecDepth 100000 in
set_option maxHeartbeats 1000000 in
theorem rread0e (rr b c aa ca la sa n cap k at0 : Nat) (jp : Option Addr) (ws : List Int) (st : Int) (xs : List RJ) (x : RJ) (w : World) (h : RSys w rr b c aa ca la sa n jp cap ws st xs) (hk : xs[k]? = some x) (hat : x.job.at_ = (at0 : Int)) (hn : at0 + 2 < n) (s0 : 0 ≤ st) (s1 : st ≤ 1000000) (hp : x.pl = 0) (hv : (ws.getD at0 0).tmod 2 = 0) :
    Calls Try.prog 31 #[.pointer (some ⟨rr, 0, none⟩), .int .i64 (k : Int)] w fun e w' => e = .returned (.tuple #[]) ∧ RSys w' rr b c aa ca la sa n jp cap (ws) (st + 1) (xs.set k ({ x with cnt := ws.getD at0 0, pl := 1 })) ∧ FrR b c aa ca la sa w w' := by
  have K := hide (rload rr b c aa ca la sa n cap k 0 at0 jp ws st xs x w.drew h.drew hk hat (by omega) (by omega) s0 s1 _ rfl)
  have l8 := h.l8
  have hkl := (List.getElem?_eq_some_iff.1 hk).1
  obtain ⟨l, hll⟩ : ∃ l, xs.length = l := ⟨_, rfl⟩
  have j1 : (k : Int) < (l : Int) := by omega
  have j0 : (0 : Int) ≤ (k : Int) := by omega
  obtain ⟨r0, r1, r2, r3, r4, r5⟩ := h.cellsL hll
  obtain ⟨A1, C1, L1, S0, S1, S2, S3⟩ := h.at hk
  obtain ⟨m1, m2, m3, m4, m5, m6, m7, m8, m9, m10, m11, m12⟩ := h.nes
  rw [hp] at A1
  have HLL := hide hll
  have HH := hide h
  have HK1 := hide hk
  clear hp hll hkl hat hn l8 h hk
  simp only [Nat.add_zero] at K
  generalize ws.getD at0 0 = held at *
  go_enter Try.func31, Try.ntmps31
  go_wp2_with fail
  go_region_held3 (fun w' => w'.cell? ⟨rr, 3, none⟩ = some (.slice (some ⟨ca, 0, none⟩) l l)) (first | (simp [World.cell?_setCell_other, *]; done) | go_keep)
    (first | (go_at_call 41; refine (unhide K).mono ?_; rintro e w1 ⟨rfl, h1, F1⟩; obtain ⟨t0', t1', t2', t3', t4', t5'⟩ := h1.cellsL (unhide HLL); obtain ⟨B1, B2, B3, B4, B5, B6, B7⟩ := h1.at (unhide HK1); obtain ⟨g1, g2, g3, g4⟩ := h1.fz; have H1 := hide h1; have HF1 := hide F1; clear h1 F1))
  have h2 := (unhide H1).setCnt (unhide HK1) held
  have F2 := ((FrR.refl b c aa ca la sa w).drew.trans (unhide HF1)).set (p := ⟨ca, k, none⟩) (.inr (.inl rfl)) (.int .i64 held)
  have hk2 := get_set (unhide HK1) { x with cnt := held }
  have hl2 : (xs.set k { x with cnt := held }).length = l := by rw [List.length_set]; exact unhide HLL
  clear B1 B2 B3 B4 B5 B6 B7 g1 g2 g3 g4 t0' t1' t2' t3' t4' t5' r0 r1 r2 r3 r4 r5 A1 C1 L1 S0 S1 S2 S3
  generalize w1.setCell ⟨ca, k, none⟩ (.int .i64 held) = w2 at *
  obtain ⟨r0, r1, r2, r3, r4, r5⟩ := h2.cellsL hl2
  obtain ⟨A1, C1, L1, S0, S1, S2, S3⟩ := h2.at hk2
  obtain ⟨f1, f2, f3, f4⟩ := h2.fz
  have R := h2.setPl hk2 1
  rw [List.set_set] at R
  have HR := hide R
  have HF2 := hide (F2.set (p := ⟨aa, k, none⟩) (.inl rfl) (.int .i64 1))
  clear R h2 F2 hk2 hl2
  go_wp2_with fail
  go_end0
  exact ⟨rfl, unhide HR, unhide HF2⟩

set_option maxRecDepth 100000 in
set_option maxHeartbeats 1000000 in
theorem rread0o (rr b c aa ca la sa n cap k at0 : Nat) (jp : Option Addr) (ws : List Int) (st : Int) (xs : List RJ) (x : RJ) (w : World) (h : RSys w rr b c aa ca la sa n jp cap ws st xs) (hk : xs[k]? = some x) (hat : x.job.at_ = (at0 : Int)) (hn : at0 + 2 < n) (s0 : 0 ≤ st) (s1 : st ≤ 1000000) (hp : x.pl = 0) (hv : ¬ (ws.getD at0 0).tmod 2 = 0) (t0 : 0 ≤ x.st.tries) (t1 : x.st.tries ≤ 1000000) :
    Calls Try.prog 31 #[.pointer (some ⟨rr, 0, none⟩), .int .i64 (k : Int)] w fun e w' => e = .returned (.tuple #[]) ∧ RSys w' rr b c aa ca la sa n jp cap (ws) (st + 1) (xs.set k ({ x with cnt := ws.getD at0 0, st := { x.st with tries := x.st.tries + 1 } })) ∧ FrR b c aa ca la sa w w' := by
  have K := hide (rload rr b c aa ca la sa n cap k 0 at0 jp ws st xs x w.drew h.drew hk hat (by omega) (by omega) s0 s1 _ rfl)
  have l8 := h.l8
  have hkl := (List.getElem?_eq_some_iff.1 hk).1
  obtain ⟨l, hll⟩ : ∃ l, xs.length = l := ⟨_, rfl⟩
  have j1 : (k : Int) < (l : Int) := by omega
  have j0 : (0 : Int) ≤ (k : Int) := by omega
  obtain ⟨r0, r1, r2, r3, r4, r5⟩ := h.cellsL hll
  obtain ⟨A1, C1, L1, S0, S1, S2, S3⟩ := h.at hk
  obtain ⟨m1, m2, m3, m4, m5, m6, m7, m8, m9, m10, m11, m12⟩ := h.nes
  rw [hp] at A1
  have HLL := hide hll
  have HH := hide h
  have HK1 := hide hk
  clear hp hll hkl hat hn l8 h hk
  simp only [Nat.add_zero] at K
  generalize ws.getD at0 0 = held at *
  go_enter Try.func31, Try.ntmps31
  go_wp2_with fail
  go_region_held3 (fun w' => w'.cell? ⟨rr, 3, none⟩ = some (.slice (some ⟨ca, 0, none⟩) l l)) (first | (simp [World.cell?_setCell_other, *]; done) | go_keep)
    (first | (go_at_call 41; refine (unhide K).mono ?_; rintro e w1 ⟨rfl, h1, F1⟩; obtain ⟨t0', t1', t2', t3', t4', t5'⟩ := h1.cellsL (unhide HLL); obtain ⟨B1, B2, B3, B4, B5, B6, B7⟩ := h1.at (unhide HK1); obtain ⟨g1, g2, g3, g4⟩ := h1.fz; have H1 := hide h1; have HF1 := hide F1; clear h1 F1))
  have h2 := (unhide H1).setCnt (unhide HK1) held
  have F2 := ((FrR.refl b c aa ca la sa w).drew.trans (unhide HF1)).set (p := ⟨ca, k, none⟩) (.inr (.inl rfl)) (.int .i64 held)
  have hk2 := get_set (unhide HK1) { x with cnt := held }
  have hl2 : (xs.set k { x with cnt := held }).length = l := by rw [List.length_set]; exact unhide HLL
  clear B1 B2 B3 B4 B5 B6 B7 g1 g2 g3 g4 t0' t1' t2' t3' t4' t5' r0 r1 r2 r3 r4 r5 A1 C1 L1 S0 S1 S2 S3
  generalize w1.setCell ⟨ca, k, none⟩ (.int .i64 held) = w2 at *
  obtain ⟨r0, r1, r2, r3, r4, r5⟩ := h2.cellsL hl2
  obtain ⟨A1, C1, L1, S0, S1, S2, S3⟩ := h2.at hk2
  obtain ⟨f1, f2, f3, f4⟩ := h2.fz
  have R := h2.setSt hk2 3 (by omega) (.int .i64 (x.st.tries + 1)) { x.st with tries := x.st.tries + 1 } rfl
  rw [List.set_set] at R
  have HR := hide R
  have HF2 := hide (F2.set (p := ⟨sa, k * 4 + 3, none⟩) (.inr (.inr (.inr rfl))) (.int .i64 (x.st.tries + 1)))
  clear R h2 F2 hk2 hl2
  go_wp2_with fail
  refine bodyPost_ret (results_none rfl _ _ _) rfl ?_
  exact ⟨rfl, unhide HR, unhide HF2⟩

set_option maxRecDepth 100000 in
set_option maxHeartbeats 1000000 in
theorem rread1p (rr b c aa ca la sa n cap k at0 : Nat) (jp : Option Addr) (ws : List Int) (st : Int) (xs : List RJ) (x : RJ) (w : World) (h : RSys w rr b c aa ca la sa n jp cap ws st xs) (hk : xs[k]? = some x) (hat : x.job.at_ = (at0 : Int)) (hn : at0 + 2 < n) (s0 : 0 ≤ st) (s1 : st ≤ 1000000) (hp : x.pl = 1) (hw : 0 < x.job.work) :
    Calls Try.prog 31 #[.pointer (some ⟨rr, 0, none⟩), .int .i64 (k : Int)] w fun e w' => e = .returned (.tuple #[]) ∧ RSys w' rr b c aa ca la sa n jp cap (ws) (st + 1) (xs.set k ({ x with st := { x.st with sA := ws.getD (at0 + 1) 0 }, pl := 2, lft := x.job.work })) ∧ FrR b c aa ca la sa w w' := by
  have HW := hide hw
  clear hw
  have K := hide (rload rr b c aa ca la sa n cap k 1 at0 jp ws st xs x w.drew h.drew hk hat (by omega) (by omega) s0 s1 _ rfl)
  have l8 := h.l8
  have hkl := (List.getElem?_eq_some_iff.1 hk).1
  obtain ⟨l, hll⟩ : ∃ l, xs.length = l := ⟨_, rfl⟩
  have j1 : (k : Int) < (l : Int) := by omega
  have j0 : (0 : Int) ≤ (k : Int) := by omega
  obtain ⟨r0, r1, r2, r3, r4, r5⟩ := h.cellsL hll
  obtain ⟨A1, C1, L1, S0, S1, S2, S3⟩ := h.at hk
  obtain ⟨m1, m2, m3, m4, m5, m6, m7, m8, m9, m10, m11, m12⟩ := h.nes
  rw [hp] at A1
  have HLL := hide hll
  have HH := hide h
  have HK1 := hide hk
  clear hp hll hkl hat hn l8 h hk
  generalize ws.getD (at0 + 1) 0 = held at *
  go_enter Try.func31, Try.ntmps31
  go_wp2_with fail
  go_region_held3 (fun w' => w'.cell? ⟨rr, 5, none⟩ = some (.slice (some ⟨sa, 0, none⟩) l l)) (first | (simp [World.cell?_setCell_other, *]; done) | go_keep)
    (first | (go_at_call 41; refine (unhide K).mono ?_; rintro e w1 ⟨rfl, h1, F1⟩; obtain ⟨t0', t1', t2', t3', t4', t5'⟩ := h1.cellsL (unhide HLL); obtain ⟨B1, B2, B3, B4, B5, B6, B7⟩ := h1.at (unhide HK1); obtain ⟨g1, g2, g3, g4⟩ := h1.fz; have H1 := hide h1; have HF1 := hide F1; clear h1 F1))
  have h2 := (unhide H1).setSt (unhide HK1) 1 (by omega) (.int .i64 held) { x.st with sA := held } rfl
  have F2 := ((FrR.refl b c aa ca la sa w).drew.trans (unhide HF1)).set (p := ⟨sa, k * 4 + 1, none⟩) (.inr (.inr (.inr rfl))) (.int .i64 held)
  have hk2 := get_set (unhide HK1) { x with st := { x.st with sA := held } }
  clear B1 B2 B3 B4 B5 B6 B7 g1 g2 g3 g4 t0' t1' t2' t3' t4' t5' r0 r1 r2 r3 r4 r5 A1 C1 L1 S0 S1 S2 S3
  generalize w1.setCell ⟨sa, k * 4 + 1, none⟩ (.int .i64 held) = w2 at *
  have K2 := rnext_pos rr b c aa ca la sa n cap k _ _ _ 2 3 _ _ w2 h2 hk2 (unhide HW)
  rw [List.set_set] at K2
  have HK2 := hide K2
  have HF := hide F2
  clear h2 hk2 F2 K2
  go_wp2_with fail
  refine (unhide HK2).mono ?_
  rintro e w3 ⟨rfl, h3, F3⟩
  have HR := hide h3
  have HF2 := hide ((unhide HF).trans F3)
  clear h3 F3
  go_wp2_with fail
  go_end0
  exact ⟨rfl, unhide HR, unhide HF2⟩

set_option maxRecDepth 100000 in
set_option maxHeartbeats 1000000 in
theorem rread1z (rr b c aa ca la sa n cap k at0 : Nat) (jp : Option Addr) (ws : List Int) (st : Int) (xs : List RJ) (x : RJ) (w : World) (h : RSys w rr b c aa ca la sa n jp cap ws st xs) (hk : xs[k]? = some x) (hat : x.job.at_ = (at0 : Int)) (hn : at0 + 2 < n) (s0 : 0 ≤ st) (s1 : st ≤ 1000000) (hp : x.pl = 1) (hw : x.job.work = 0) :
    Calls Try.prog 31 #[.pointer (some ⟨rr, 0, none⟩), .int .i64 (k : Int)] w fun e w' => e = .returned (.tuple #[]) ∧ RSys w' rr b c aa ca la sa n jp cap (ws) (st + 1) (xs.set k ({ x with st := { x.st with sA := ws.getD (at0 + 1) 0 }, pl := 3, lft := x.job.work })) ∧ FrR b c aa ca la sa w w' := by
  have HW := hide hw
  clear hw
  have K := hide (rload rr b c aa ca la sa n cap k 1 at0 jp ws st xs x w.drew h.drew hk hat (by omega) (by omega) s0 s1 _ rfl)
  have l8 := h.l8
  have hkl := (List.getElem?_eq_some_iff.1 hk).1
  obtain ⟨l, hll⟩ : ∃ l, xs.length = l := ⟨_, rfl⟩
  have j1 : (k : Int) < (l : Int) := by omega
  have j0 : (0 : Int) ≤ (k : Int) := by omega
  obtain ⟨r0, r1, r2, r3, r4, r5⟩ := h.cellsL hll
  obtain ⟨A1, C1, L1, S0, S1, S2, S3⟩ := h.at hk
  obtain ⟨m1, m2, m3, m4, m5, m6, m7, m8, m9, m10, m11, m12⟩ := h.nes
  rw [hp] at A1
  have HLL := hide hll
  have HH := hide h
  have HK1 := hide hk
  clear hp hll hkl hat hn l8 h hk
  generalize ws.getD (at0 + 1) 0 = held at *
  go_enter Try.func31, Try.ntmps31
  go_wp2_with fail
  go_region_held3 (fun w' => w'.cell? ⟨rr, 5, none⟩ = some (.slice (some ⟨sa, 0, none⟩) l l)) (first | (simp [World.cell?_setCell_other, *]; done) | go_keep)
    (first | (go_at_call 41; refine (unhide K).mono ?_; rintro e w1 ⟨rfl, h1, F1⟩; obtain ⟨t0', t1', t2', t3', t4', t5'⟩ := h1.cellsL (unhide HLL); obtain ⟨B1, B2, B3, B4, B5, B6, B7⟩ := h1.at (unhide HK1); obtain ⟨g1, g2, g3, g4⟩ := h1.fz; have H1 := hide h1; have HF1 := hide F1; clear h1 F1))
  have h2 := (unhide H1).setSt (unhide HK1) 1 (by omega) (.int .i64 held) { x.st with sA := held } rfl
  have F2 := ((FrR.refl b c aa ca la sa w).drew.trans (unhide HF1)).set (p := ⟨sa, k * 4 + 1, none⟩) (.inr (.inr (.inr rfl))) (.int .i64 held)
  have hk2 := get_set (unhide HK1) { x with st := { x.st with sA := held } }
  clear B1 B2 B3 B4 B5 B6 B7 g1 g2 g3 g4 t0' t1' t2' t3' t4' t5' r0 r1 r2 r3 r4 r5 A1 C1 L1 S0 S1 S2 S3
  generalize w1.setCell ⟨sa, k * 4 + 1, none⟩ (.int .i64 held) = w2 at *
  have K2 := rnext_zero rr b c aa ca la sa n cap k _ _ _ 2 3 _ _ w2 h2 hk2 (unhide HW)
  rw [List.set_set] at K2
  have HK2 := hide K2
  have HF := hide F2
  clear h2 hk2 F2 K2
  go_wp2_with fail
  refine (unhide HK2).mono ?_
  rintro e w3 ⟨rfl, h3, F3⟩
  have HR := hide h3
  have HF2 := hide ((unhide HF).trans F3)
  clear h3 F3
  go_wp2_with fail
  go_end0
  exact ⟨rfl, unhide HR, unhide HF2⟩

set_option maxRecDepth 100000 in
set_option maxHeartbeats 1000000 in
theorem rread2 (rr b c aa ca la sa n cap k at0 : Nat) (jp : Option Addr) (ws : List Int) (st : Int) (xs : List RJ) (x : RJ) (w : World) (h : RSys w rr b c aa ca la sa n jp cap ws st xs) (hk : xs[k]? = some x) (hat : x.job.at_ = (at0 : Int)) (hn : at0 + 2 < n) (s0 : 0 ≤ st) (s1 : st ≤ 1000000) (hp : x.pl = 2) (f0 : 1 ≤ x.lft) (f1 : x.lft ≤ 100) :
    Calls Try.prog 31 #[.pointer (some ⟨rr, 0, none⟩), .int .i64 (k : Int)] w fun e w' => e = .returned (.tuple #[]) ∧ RSys w' rr b c aa ca la sa n jp cap (ws) (st + 1) (xs.set k ({ x with pl := if x.lft = 1 then 3 else x.pl, lft := x.lft - 1 })) ∧ FrR b c aa ca la sa w w' := by
  have K := hide (rwork rr b c aa ca la sa n cap k at0 jp ws st 3 xs x w h hk hat (by omega) s0 s1 f0 f1)
  have l8 := h.l8
  have hkl := (List.getElem?_eq_some_iff.1 hk).1
  obtain ⟨l, hll⟩ : ∃ l, xs.length = l := ⟨_, rfl⟩
  have j1 : (k : Int) < (l : Int) := by omega
  have j0 : (0 : Int) ≤ (k : Int) := by omega
  obtain ⟨r0, r1, r2, r3, r4, r5⟩ := h.cellsL hll
  obtain ⟨A1, C1, L1, S0, S1, S2, S3⟩ := h.at hk
  obtain ⟨m1, m2, m3, m4, m5, m6, m7, m8, m9, m10, m11, m12⟩ := h.nes
  rw [hp] at A1
  have HLL := hide hll
  have HH := hide h
  have HK1 := hide hk
  clear hp hll hkl hat hn l8 h hk
  generalize ({ x with pl := if x.lft = 1 then 3 else x.pl, lft := x.lft - 1 } : RJ) = x' at *
  go_enter Try.func31, Try.ntmps31
  go_wp2_with fail
  refine (unhide K).mono ?_
  rintro e w1 ⟨rfl, h1, F1⟩
  have HR := hide h1
  have HF2 := hide F1
  clear h1 F1
  go_wp2_with fail
  go_end0
  exact ⟨rfl, unhide HR, unhide HF2⟩

set_option maxRecDepth 100000 in
set_option maxHeartbeats 1000000 in
theorem rread3 (rr b c aa ca la sa n cap k at0 : Nat) (jp : Option Addr) (ws : List Int) (st : Int) (xs : List RJ) (x : RJ) (w : World) (h : RSys w rr b c aa ca la sa n jp cap ws st xs) (hk : xs[k]? = some x) (hat : x.job.at_ = (at0 : Int)) (hn : at0 + 2 < n) (s0 : 0 ≤ st) (s1 : st ≤ 1000000) (hp : x.pl = 3) :
    Calls Try.prog 31 #[.pointer (some ⟨rr, 0, none⟩), .int .i64 (k : Int)] w fun e w' => e = .returned (.tuple #[]) ∧ RSys w' rr b c aa ca la sa n jp cap (ws) (st + 1) (xs.set k ({ x with st := { x.st with sB := ws.getD (at0 + 2) 0 }, pl := 4 })) ∧ FrR b c aa ca la sa w w' := by
  have K := hide (rload rr b c aa ca la sa n cap k 2 at0 jp ws st xs x w.drew h.drew hk hat (by omega) (by omega) s0 s1 _ rfl)
  have l8 := h.l8
  have hkl := (List.getElem?_eq_some_iff.1 hk).1
  obtain ⟨l, hll⟩ : ∃ l, xs.length = l := ⟨_, rfl⟩
  have j1 : (k : Int) < (l : Int) := by omega
  have j0 : (0 : Int) ≤ (k : Int) := by omega
  obtain ⟨r0, r1, r2, r3, r4, r5⟩ := h.cellsL hll
  obtain ⟨A1, C1, L1, S0, S1, S2, S3⟩ := h.at hk
  obtain ⟨m1, m2, m3, m4, m5, m6, m7, m8, m9, m10, m11, m12⟩ := h.nes
  rw [hp] at A1
  have HLL := hide hll
  have HH := hide h
  have HK1 := hide hk
  clear hp hll hkl hat hn l8 h hk
  generalize ws.getD (at0 + 2) 0 = held at *
  go_enter Try.func31, Try.ntmps31
  go_wp2_with fail
  go_region_held3 (fun w' => w'.cell? ⟨rr, 5, none⟩ = some (.slice (some ⟨sa, 0, none⟩) l l)) (first | (simp [World.cell?_setCell_other, *]; done) | go_keep)
    (first | (go_at_call 41; refine (unhide K).mono ?_; rintro e w1 ⟨rfl, h1, F1⟩; obtain ⟨t0', t1', t2', t3', t4', t5'⟩ := h1.cellsL (unhide HLL); obtain ⟨B1, B2, B3, B4, B5, B6, B7⟩ := h1.at (unhide HK1); obtain ⟨g1, g2, g3, g4⟩ := h1.fz; have H1 := hide h1; have HF1 := hide F1; clear h1 F1))
  have h2 := (unhide H1).setSt (unhide HK1) 2 (by omega) (.int .i64 held) { x.st with sB := held } rfl
  have F2 := ((FrR.refl b c aa ca la sa w).drew.trans (unhide HF1)).set (p := ⟨sa, k * 4 + 2, none⟩) (.inr (.inr (.inr rfl))) (.int .i64 held)
  have hk2 := get_set (unhide HK1) { x with st := { x.st with sB := held } }
  have hl2 : (xs.set k { x with st := { x.st with sB := held } }).length = l := by rw [List.length_set]; exact unhide HLL
  clear B1 B2 B3 B4 B5 B6 B7 g1 g2 g3 g4 t0' t1' t2' t3' t4' t5' r0 r1 r2 r3 r4 r5 A1 C1 L1 S0 S1 S2 S3
  generalize w1.setCell ⟨sa, k * 4 + 2, none⟩ (.int .i64 held) = w2 at *
  obtain ⟨r0, r1, r2, r3, r4, r5⟩ := h2.cellsL hl2
  obtain ⟨A1, C1, L1, S0, S1, S2, S3⟩ := h2.at hk2
  obtain ⟨f1, f2, f3, f4⟩ := h2.fz
  have R := h2.setPl hk2 4
  rw [List.set_set] at R
  have HR := hide R
  have HF2 := hide (F2.set (p := ⟨aa, k, none⟩) (.inl rfl) (.int .i64 4))
  clear R h2 F2 hk2 hl2
  go_wp2_with fail
  go_end0
  exact ⟨rfl, unhide HR, unhide HF2⟩

set_option maxRecDepth 100000 in
set_option maxHeartbeats 1000000 in
theorem rread4y (rr b c aa ca la sa n cap k at0 : Nat) (jp : Option Addr) (ws : List Int) (st : Int) (xs : List RJ) (x : RJ) (w : World) (h : RSys w rr b c aa ca la sa n jp cap ws st xs) (hk : xs[k]? = some x) (hat : x.job.at_ = (at0 : Int)) (hn : at0 + 2 < n) (s0 : 0 ≤ st) (s1 : st ≤ 1000000) (hp : x.pl = 4) (hv : ws.getD at0 0 = x.cnt) :
    Calls Try.prog 31 #[.pointer (some ⟨rr, 0, none⟩), .int .i64 (k : Int)] w fun e w' => e = .returned (.tuple #[]) ∧ RSys w' rr b c aa ca la sa n jp cap (ws) (st + 1) (xs.set k ({ x with st := { x.st with done := true } })) ∧ FrR b c aa ca la sa w w' := by
  have K := hide (rload rr b c aa ca la sa n cap k 0 at0 jp ws st xs x w.drew h.drew hk hat (by omega) (by omega) s0 s1 _ rfl)
  simp only [Nat.add_zero] at K
  rw [hv] at K
  have l8 := h.l8
  have hkl := (List.getElem?_eq_some_iff.1 hk).1
  obtain ⟨l, hll⟩ : ∃ l, xs.length = l := ⟨_, rfl⟩
  have j1 : (k : Int) < (l : Int) := by omega
  have j0 : (0 : Int) ≤ (k : Int) := by omega
  obtain ⟨r0, r1, r2, r3, r4, r5⟩ := h.cellsL hll
  obtain ⟨A1, C1, L1, S0, S1, S2, S3⟩ := h.at hk
  obtain ⟨m1, m2, m3, m4, m5, m6, m7, m8, m9, m10, m11, m12⟩ := h.nes
  rw [hp] at A1
  have HLL := hide hll
  have HH := hide h
  have HK1 := hide hk
  clear hp hll hkl hat hn l8 h hk
  clear hv
  go_enter Try.func31, Try.ntmps31
  go_wp2_with fail
  go_region_held3 (fun w' => w'.cell? ⟨rr, 3, none⟩ = some (.slice (some ⟨ca, 0, none⟩) l l) ∧ w'.cell? ⟨ca, k, none⟩ = some (.int .i64 x.cnt)) (go_keep)
    (first | (go_at_call 41; refine (unhide K).mono ?_; rintro e w1 ⟨rfl, h1, F1⟩; obtain ⟨t0', t1', t2', t3', t4', t5'⟩ := h1.cellsL (unhide HLL); obtain ⟨B1, B2, B3, B4, B5, B6, B7⟩ := h1.at (unhide HK1); have H1 := hide h1; have HF1 := hide F1; clear h1 F1))
  all_goals
    have h1 := unhide H1
    have F1 := (FrR.refl b c aa ca la sa w).drew.trans (unhide HF1)
    clear B1 B2 B3 B4 B5 B6 B7 t0' t1' t2' t3' t4' t5' r0 r1 r2 r3 r4 r5 A1 C1 L1 S0 S1 S2 S3
    obtain ⟨r0, r1, r2, r3, r4, r5⟩ := h1.cellsL (unhide HLL)
    obtain ⟨A1, C1, L1, S0, S1, S2, S3⟩ := h1.at (unhide HK1)
    obtain ⟨f1, f2, f3, f4⟩ := h1.fz
    have HR := hide (h1.setSt (unhide HK1) 0 (by omega) (.bool true) { x.st with done := true } rfl)
    have HF2 := hide (F1.set (p := ⟨sa, k * 4 + 0, none⟩) (.inr (.inr (.inr rfl))) (.bool true))
    clear h1 F1
    go_wp2_with fail
    go_end0
    exact ⟨rfl, unhide HR, unhide HF2⟩

set_option maxRecDepth 100000 in
set_option maxHeartbeats 1000000 in
theorem rread4n (rr b c aa ca la sa n cap k at0 : Nat) (jp : Option Addr) (ws : List Int) (st : Int) (xs : List RJ) (x : RJ) (w : World) (h : RSys w rr b c aa ca la sa n jp cap ws st xs) (hk : xs[k]? = some x) (hat : x.job.at_ = (at0 : Int)) (hn : at0 + 2 < n) (s0 : 0 ≤ st) (s1 : st ≤ 1000000) (hp : x.pl = 4) (hv : ¬ ws.getD at0 0 = x.cnt) (t0 : 0 ≤ x.st.tries) (t1 : x.st.tries ≤ 1000000) :
    Calls Try.prog 31 #[.pointer (some ⟨rr, 0, none⟩), .int .i64 (k : Int)] w fun e w' => e = .returned (.tuple #[]) ∧ RSys w' rr b c aa ca la sa n jp cap (ws) (st + 1) (xs.set k ({ x with pl := 0, st := { x.st with tries := x.st.tries + 1, sA := 0, sB := 0 } })) ∧ FrR b c aa ca la sa w w' := by
  have K := hide (rload rr b c aa ca la sa n cap k 0 at0 jp ws st xs x w.drew h.drew hk hat (by omega) (by omega) s0 s1 _ rfl)
  simp only [Nat.add_zero] at K
  have l8 := h.l8
  have hkl := (List.getElem?_eq_some_iff.1 hk).1
  obtain ⟨l, hll⟩ : ∃ l, xs.length = l := ⟨_, rfl⟩
  have j1 : (k : Int) < (l : Int) := by omega
  have j0 : (0 : Int) ≤ (k : Int) := by omega
  obtain ⟨r0, r1, r2, r3, r4, r5⟩ := h.cellsL hll
  obtain ⟨A1, C1, L1, S0, S1, S2, S3⟩ := h.at hk
  obtain ⟨m1, m2, m3, m4, m5, m6, m7, m8, m9, m10, m11, m12⟩ := h.nes
  rw [hp] at A1
  have HLL := hide hll
  have HH := hide h
  have HK1 := hide hk
  clear hp hll hkl hat hn l8 h hk
  generalize ws.getD at0 0 = held at *
  have hv2 : (held == x.cnt) = false := by simpa using hv
  go_enter Try.func31, Try.ntmps31
  go_wp2_with fail
  go_region_held3 (fun w' => w'.cell? ⟨rr, 3, none⟩ = some (.slice (some ⟨ca, 0, none⟩) l l) ∧ w'.cell? ⟨ca, k, none⟩ = some (.int .i64 x.cnt)) (go_keep)
    (first | (go_at_call 41; refine (unhide K).mono ?_; rintro e w1 ⟨rfl, h1, F1⟩; obtain ⟨t0', t1', t2', t3', t4', t5'⟩ := h1.cellsL (unhide HLL); obtain ⟨B1, B2, B3, B4, B5, B6, B7⟩ := h1.at (unhide HK1); have H1 := hide h1; have HF1 := hide F1; clear h1 F1))
  all_goals
    have h1 := unhide H1
    have F1 := (FrR.refl b c aa ca la sa w).drew.trans (unhide HF1)
    clear B1 B2 B3 B4 B5 B6 B7 t0' t1' t2' t3' t4' t5' r0 r1 r2 r3 r4 r5 A1 C1 L1 S0 S1 S2 S3
    obtain ⟨r0, r1, r2, r3, r4, r5⟩ := h1.cellsL (unhide HLL)
    obtain ⟨A1, C1, L1, S0, S1, S2, S3⟩ := h1.at (unhide HK1)
    obtain ⟨f1, f2, f3, f4⟩ := h1.fz
    have R := (((h1.setSt (unhide HK1) 3 (by omega) (.int .i64 (x.st.tries + 1)) { x.st with tries := x.st.tries + 1 } rfl).setSt (get_set (unhide HK1) _) 1 (by omega) (.int .i64 0) { x.st with tries := x.st.tries + 1, sA := 0 } rfl).setSt (get_set (get_set (unhide HK1) _) _) 2 (by omega) (.int .i64 0) { x.st with tries := x.st.tries + 1, sA := 0, sB := 0 } rfl).setPl (get_set (get_set (get_set (unhide HK1) _) _) _) 0
    simp only [List.set_set] at R
    have HR := hide R
    have HF2 := hide ((((F1.set (p := ⟨sa, k * 4 + 3, none⟩) (.inr (.inr (.inr rfl))) (.int .i64 (x.st.tries + 1))).set (p := ⟨sa, k * 4 + 1, none⟩) (.inr (.inr (.inr rfl))) (.int .i64 0)).set (p := ⟨sa, k * 4 + 2, none⟩) (.inr (.inr (.inr rfl))) (.int .i64 0)).set (p := ⟨aa, k, none⟩) (.inl rfl) (.int .i64 0))
    clear h1 R F1
    go_wp2_with fail
    refine bodyPost_ret (results_none rfl _ _ _) rfl ?_
    exact ⟨rfl, unhide HR, unhide HF2⟩
end Go.Proofs.Ytkgeapmafpeapaa
