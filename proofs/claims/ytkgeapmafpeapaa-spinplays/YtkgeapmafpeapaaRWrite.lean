/-
  The document's run: the contracts of a writer's step.
-/
import Derived.Test.YtkgeapmafpeapaaRFacts
namespace Go.Proofs.Ytkgeapmafpeapaa
open Go.RowKit
attribute [local go_sem ↓] Go.wp_at_zero Go.wp_at_succ

set_option maxRecDepth 100000 in
set_option maxHeartbeats 1000000 in
theorem rwrite0e (rr b c aa ca la sa n cap k at0 : Nat) (jp : Option Addr) (ws : List Int) (st : Int) (xs : List RJ) (x : RJ) (w : World) (h : RSys w rr b c aa ca la sa n jp cap ws st xs) (hk : xs[k]? = some x) (hat : x.job.at_ = (at0 : Int)) (hn : at0 + 2 < n) (s0 : 0 ≤ st) (s1 : st ≤ 1000000) (hp : x.pl = 0) (hv : (ws.getD at0 0).tmod 2 = 0) :
    Calls Try.prog 30 #[.pointer (some ⟨rr, 0, none⟩), .int .i64 (k : Int)] w fun e w' => e = .returned (.tuple #[]) ∧ RSys w' rr b c aa ca la sa n jp cap (ws) (st + 1) (xs.set k ({ x with cnt := ws.getD at0 0, pl := 1 })) ∧ FrR b c aa ca la sa w w' := by
  have K := hide (rload rr b c aa ca la sa n cap k 0 at0 jp ws st xs x w.drew h.drew hk hat (by omega) (by omega) s0 s1 _ rfl)
  have l8 := h.l8
  have hkl := (List.getElem?_eq_some_iff.1 hk).1
  obtain ⟨l, hll⟩ : ∃ l, xs.length = l := ⟨_, rfl⟩
  have j1 : (k : Int) < (l : Int) := by omega
  have j0 : (0 : Int) ≤ (k : Int) := by omega
  obtain ⟨r0, r1, r2, r3, r4, r5⟩ := h.cellsL hll
  obtain ⟨A1, C1, L1, S0, S1, S2, S3⟩ := h.at hk
  obtain ⟨m1, m2, m3, m4, m5, m6, m7, m8, m9, m10, m11, m12⟩ := h.nes
  rw [hp] at A1
  have HLL := hide hll
  have HH := hide h
  have HK1 := hide hk
  clear hp hll hkl hat hn l8 h hk
  simp only [Nat.add_zero] at K
  generalize ws.getD at0 0 = held at *
  go_enter Try.func30, Try.ntmps30
  go_wp2_with fail
  go_region_held3 (fun w' => w'.cell? ⟨rr, 3, none⟩ = some (.slice (some ⟨ca, 0, none⟩) l l)) (first | (simp [World.cell?_setCell_other, *]; done) | go_keep)
    (first | (go_at_call 41; refine (unhide K).mono ?_; rintro e w1 ⟨rfl, h1, F1⟩; obtain ⟨t0', t1', t2', t3', t4', t5'⟩ := h1.cellsL (unhide HLL); obtain ⟨B1, B2, B3, B4, B5, B6, B7⟩ := h1.at (unhide HK1); obtain ⟨g1, g2, g3, g4⟩ := h1.fz; have H1 := hide h1; have HF1 := hide F1; clear h1 F1))
  have h2 := (unhide H1).setCnt (unhide HK1) held
  have F2 := ((FrR.refl b c aa ca la sa w).drew.trans (unhide HF1)).set (p := ⟨ca, k, none⟩) (.inr (.inl rfl)) (.int .i64 held)
  have hk2 := get_set (unhide HK1) { x with cnt := held }
  have hl2 : (xs.set k { x with cnt := held }).length = l := by rw [List.length_set]; exact unhide HLL
  clear B1 B2 B3 B4 B5 B6 B7 g1 g2 g3 g4 t0' t1' t2' t3' t4' t5' r0 r1 r2 r3 r4 r5 A1 C1 L1 S0 S1 S2 S3
  generalize w1.setCell ⟨ca, k, none⟩ (.int .i64 held) = w2 at *
  obtain ⟨r0, r1, r2, r3, r4, r5⟩ := h2.cellsL hl2
  obtain ⟨A1, C1, L1, S0, S1, S2, S3⟩ := h2.at hk2
  obtain ⟨f1, f2, f3, f4⟩ := h2.fz
  have R := h2.setPl hk2 1
  rw [List.set_set] at R
  have HR := hide R
  have HF2 := hide (F2.set (p := ⟨aa, k, none⟩) (.inl rfl) (.int .i64 1))
  clear R h2 F2 hk2 hl2
  go_wp2_with fail
  go_end0
  exact ⟨rfl, unhide HR, unhide HF2⟩

set_option maxRecDepth 100000 in
set_option maxHeartbeats 1000000 in
theorem rwrite0o (rr b c aa ca la sa n cap k at0 : Nat) (jp : Option Addr) (ws : List Int) (st : Int) (xs : List RJ) (x : RJ) (w : World) (h : RSys w rr b c aa ca la sa n jp cap ws st xs) (hk : xs[k]? = some x) (hat : x.job.at_ = (at0 : Int)) (hn : at0 + 2 < n) (s0 : 0 ≤ st) (s1 : st ≤ 1000000) (hp : x.pl = 0) (hv : ¬ (ws.getD at0 0).tmod 2 = 0) (t0 : 0 ≤ x.st.tries) (t1 : x.st.tries ≤ 1000000) :
    Calls Try.prog 30 #[.pointer (some ⟨rr, 0, none⟩), .int .i64 (k : Int)] w fun e w' => e = .returned (.tuple #[]) ∧ RSys w' rr b c aa ca la sa n jp cap (ws) (st + 1) (xs.set k ({ x with cnt := ws.getD at0 0, st := { x.st with tries := x.st.tries + 1 } })) ∧ FrR b c aa ca la sa w w' := by
  have K := hide (rload rr b c aa ca la sa n cap k 0 at0 jp ws st xs x w.drew h.drew hk hat (by omega) (by omega) s0 s1 _ rfl)
  have l8 := h.l8
  have hkl := (List.getElem?_eq_some_iff.1 hk).1
  obtain ⟨l, hll⟩ : ∃ l, xs.length = l := ⟨_, rfl⟩
  have j1 : (k : Int) < (l : Int) := by omega
  have j0 : (0 : Int) ≤ (k : Int) := by omega
  obtain ⟨r0, r1, r2, r3, r4, r5⟩ := h.cellsL hll
  obtain ⟨A1, C1, L1, S0, S1, S2, S3⟩ := h.at hk
  obtain ⟨m1, m2, m3, m4, m5, m6, m7, m8, m9, m10, m11, m12⟩ := h.nes
  rw [hp] at A1
  have HLL := hide hll
  have HH := hide h
  have HK1 := hide hk
  clear hp hll hkl hat hn l8 h hk
  simp only [Nat.add_zero] at K
  generalize ws.getD at0 0 = held at *
  go_enter Try.func30, Try.ntmps30
  go_wp2_with fail
  go_region_held3 (fun w' => w'.cell? ⟨rr, 3, none⟩ = some (.slice (some ⟨ca, 0, none⟩) l l)) (first | (simp [World.cell?_setCell_other, *]; done) | go_keep)
    (first | (go_at_call 41; refine (unhide K).mono ?_; rintro e w1 ⟨rfl, h1, F1⟩; obtain ⟨t0', t1', t2', t3', t4', t5'⟩ := h1.cellsL (unhide HLL); obtain ⟨B1, B2, B3, B4, B5, B6, B7⟩ := h1.at (unhide HK1); obtain ⟨g1, g2, g3, g4⟩ := h1.fz; have H1 := hide h1; have HF1 := hide F1; clear h1 F1))
  have h2 := (unhide H1).setCnt (unhide HK1) held
  have F2 := ((FrR.refl b c aa ca la sa w).drew.trans (unhide HF1)).set (p := ⟨ca, k, none⟩) (.inr (.inl rfl)) (.int .i64 held)
  have hk2 := get_set (unhide HK1) { x with cnt := held }
  have hl2 : (xs.set k { x with cnt := held }).length = l := by rw [List.length_set]; exact unhide HLL
  clear B1 B2 B3 B4 B5 B6 B7 g1 g2 g3 g4 t0' t1' t2' t3' t4' t5' r0 r1 r2 r3 r4 r5 A1 C1 L1 S0 S1 S2 S3
  generalize w1.setCell ⟨ca, k, none⟩ (.int .i64 held) = w2 at *
  obtain ⟨r0, r1, r2, r3, r4, r5⟩ := h2.cellsL hl2
  obtain ⟨A1, C1, L1, S0, S1, S2, S3⟩ := h2.at hk2
  obtain ⟨f1, f2, f3, f4⟩ := h2.fz
  have R := h2.setSt hk2 3 (by omega) (.int .i64 (x.st.tries + 1)) { x.st with tries := x.st.tries + 1 } rfl
  rw [List.set_set] at R
  have HR := hide R
  have HF2 := hide (F2.set (p := ⟨sa, k * 4 + 3, none⟩) (.inr (.inr (.inr rfl))) (.int .i64 (x.st.tries + 1)))
  clear R h2 F2 hk2 hl2
  go_wp2_with fail
  refine bodyPost_ret (results_none rfl _ _ _) rfl ?_
  exact ⟨rfl, unhide HR, unhide HF2⟩

set_option maxRecDepth 100000 in
set_option maxHeartbeats 1000000 in
theorem rwrite1y (rr b c aa ca la sa n cap k at0 : Nat) (jp : Option Addr) (ws : List Int) (st : Int) (xs : List RJ) (x : RJ) (w : World) (h : RSys w rr b c aa ca la sa n jp cap ws st xs) (hk : xs[k]? = some x) (hat : x.job.at_ = (at0 : Int)) (hn : at0 + 2 < n) (s0 : 0 ≤ st) (s1 : st ≤ 1000000) (hp : x.pl = 1) (hv : ws.getD at0 0 = x.cnt) :
    Calls Try.prog 30 #[.pointer (some ⟨rr, 0, none⟩), .int .i64 (k : Int)] w fun e w' => e = .returned (.tuple #[]) ∧ RSys w' rr b c aa ca la sa n jp cap (ws.set at0 (IntKind.i64.wrap (x.cnt + 1))) (st + 1) (xs.set k ({ x with pl := 2 })) ∧ FrR b c aa ca la sa w w' := by
  have l8 := h.l8
  have hkl := (List.getElem?_eq_some_iff.1 hk).1
  obtain ⟨l, hll⟩ : ∃ l, xs.length = l := ⟨_, rfl⟩
  have j1 : (k : Int) < (l : Int) := by omega
  have j0 : (0 : Int) ≤ (k : Int) := by omega
  obtain ⟨r0, r1, r2, r3, r4, r5⟩ := h.cellsL hll
  obtain ⟨A1, C1, L1, S0, S1, S2, S3⟩ := h.at hk
  obtain ⟨m1, m2, m3, m4, m5, m6, m7, m8, m9, m10, m11, m12⟩ := h.nes
  rw [hp] at A1
  have HAT := hide hat
  obtain ⟨jb, jo, rfl, hjl, c0, c1, c2, c3, c4⟩ := h.hj k x.job (by simp [hk])
  rw [hat] at c1
  obtain ⟨kk, a, o, v, d, hm0⟩ := h.drew.mem
  have HKD := hide (do3_y b c n at0 ws st kk a o v d x.cnt (IntKind.i64.wrap (x.cnt + 1)) w.drew hm0 (by omega) s0 s1 _ hv rfl)
  clear hm0 hv
  have HLL := hide hll
  have HH := hide h
  have HK1 := hide hk
  clear hp hll hkl hat hn l8 h hk
  go_enter Try.func30, Try.ntmps30
  go_wp2_with fail
  go_region_held3 (fun w' => w'.cell? ⟨rr, 0, none⟩ = some (.pointer (some ⟨b, 0, none⟩)) ∧ w'.cell? ⟨rr, 1, none⟩ = some (.slice (some ⟨jb, jo, none⟩) l cap) ∧ w'.cell? ⟨rr, 3, none⟩ = some (.slice (some ⟨ca, 0, none⟩) l l) ∧ w'.cell? ⟨ca, k, none⟩ = some (.int .i64 x.cnt) ∧ w'.cell? ⟨jb, jo + k * 5 + 1, none⟩ = some (.int .i64 (at0 : Int))) (go_keep)
    (first | (go_at_call 37; refine (unhide HKD).mono ?_; rintro e w1 ⟨rfl, hM1, hF1⟩; have h1 := (unhide HH).drew.acc ⟨_, _, _, _, _, hM1⟩ hF1; have H1 := hide h1; obtain ⟨v0, v1, v2, v3, v4, v5⟩ := h1.cellsL (unhide HLL); obtain ⟨B1, B2, B3, B4, B5, B6, B7⟩ := h1.at (unhide HK1); obtain ⟨jb2, jo2, e2, _, _, q1, _, _, _⟩ := h1.hj k x.job (by simp [unhide HK1]); simp only [Option.some.injEq, Addr.mk.injEq] at e2; obtain ⟨rfl, rfl, -⟩ := e2; rw [unhide HAT] at q1; have HF1 := hide ((FrR.refl b c aa ca la sa w).drew.trans (.of_frm (aa := aa) (ca := ca) (la := la) (sa := sa) hF1)); clear h1 hM1 hF1))
  clear r0 r1 r2 r3 r4 r5 A1 C1 L1 S0 S1 S2 S3 v0 v1 v2 v3 v4 v5 B1 B2 B3 B4 B5 B6 B7 q1 c0 c1 c2 c3 c4
  have h1 := unhide H1
  obtain ⟨r0, r1, r2, r3, r4, r5⟩ := h1.cellsL (unhide HLL)
  obtain ⟨A1, C1, L1, S0, S1, S2, S3⟩ := h1.at (unhide HK1)
  obtain ⟨f1, f2, f3, f4⟩ := h1.fz
  have HR := hide (h1.setPl (unhide HK1) 2)
  have HF2 := hide ((unhide HF1).set (p := ⟨aa, k, none⟩) (.inl rfl) (.int .i64 2))
  clear h1
  go_wp2_with fail
  go_end0
  exact ⟨rfl, unhide HR, unhide HF2⟩

set_option maxRecDepth 100000 in
set_option maxHeartbeats 1000000 in
theorem rwrite1n (rr b c aa ca la sa n cap k at0 : Nat) (jp : Option Addr) (ws : List Int) (st : Int) (xs : List RJ) (x : RJ) (w : World) (h : RSys w rr b c aa ca la sa n jp cap ws st xs) (hk : xs[k]? = some x) (hat : x.job.at_ = (at0 : Int)) (hn : at0 + 2 < n) (s0 : 0 ≤ st) (s1 : st ≤ 1000000) (hp : x.pl = 1) (hv : ¬ ws.getD at0 0 = x.cnt) (t0 : 0 ≤ x.st.tries) (t1 : x.st.tries ≤ 1000000) :
    Calls Try.prog 30 #[.pointer (some ⟨rr, 0, none⟩), .int .i64 (k : Int)] w fun e w' => e = .returned (.tuple #[]) ∧ RSys w' rr b c aa ca la sa n jp cap (ws) (st + 1) (xs.set k ({ x with pl := 0, st := { x.st with tries := x.st.tries + 1 } })) ∧ FrR b c aa ca la sa w w' := by
  have l8 := h.l8
  have hkl := (List.getElem?_eq_some_iff.1 hk).1
  obtain ⟨l, hll⟩ : ∃ l, xs.length = l := ⟨_, rfl⟩
  have j1 : (k : Int) < (l : Int) := by omega
  have j0 : (0 : Int) ≤ (k : Int) := by omega
  obtain ⟨r0, r1, r2, r3, r4, r5⟩ := h.cellsL hll
  obtain ⟨A1, C1, L1, S0, S1, S2, S3⟩ := h.at hk
  obtain ⟨m1, m2, m3, m4, m5, m6, m7, m8, m9, m10, m11, m12⟩ := h.nes
  rw [hp] at A1
  have HAT := hide hat
  obtain ⟨jb, jo, rfl, hjl, c0, c1, c2, c3, c4⟩ := h.hj k x.job (by simp [hk])
  rw [hat] at c1
  obtain ⟨kk, a, o, v, d, hm0⟩ := h.drew.mem
  have HKD := hide (do3_n b c n at0 ws st kk a o v d x.cnt (IntKind.i64.wrap (x.cnt + 1)) w.drew hm0 (by omega) s0 s1 _ rfl hv)
  clear hm0 hv
  have HLL := hide hll
  have HH := hide h
  have HK1 := hide hk
  clear hp hll hkl hat hn l8 h hk
  go_enter Try.func30, Try.ntmps30
  go_wp2_with fail
  go_region_held3 (fun w' => w'.cell? ⟨rr, 0, none⟩ = some (.pointer (some ⟨b, 0, none⟩)) ∧ w'.cell? ⟨rr, 1, none⟩ = some (.slice (some ⟨jb, jo, none⟩) l cap) ∧ w'.cell? ⟨rr, 3, none⟩ = some (.slice (some ⟨ca, 0, none⟩) l l) ∧ w'.cell? ⟨ca, k, none⟩ = some (.int .i64 x.cnt) ∧ w'.cell? ⟨jb, jo + k * 5 + 1, none⟩ = some (.int .i64 (at0 : Int))) (go_keep)
    (first | (go_at_call 37; refine (unhide HKD).mono ?_; rintro e w1 ⟨rfl, hM1, hF1⟩; have h1 := (unhide HH).drew.acc ⟨_, _, _, _, _, hM1⟩ hF1; have H1 := hide h1; obtain ⟨v0, v1, v2, v3, v4, v5⟩ := h1.cellsL (unhide HLL); obtain ⟨B1, B2, B3, B4, B5, B6, B7⟩ := h1.at (unhide HK1); obtain ⟨jb2, jo2, e2, _, _, q1, _, _, _⟩ := h1.hj k x.job (by simp [unhide HK1]); simp only [Option.some.injEq, Addr.mk.injEq] at e2; obtain ⟨rfl, rfl, -⟩ := e2; rw [unhide HAT] at q1; have HF1 := hide ((FrR.refl b c aa ca la sa w).drew.trans (.of_frm (aa := aa) (ca := ca) (la := la) (sa := sa) hF1)); clear h1 hM1 hF1))
  clear r0 r1 r2 r3 r4 r5 A1 C1 L1 S0 S1 S2 S3 v0 v1 v2 v3 v4 v5 B1 B2 B3 B4 B5 B6 B7 q1 c0 c1 c2 c3 c4
  have h1 := unhide H1
  obtain ⟨r0, r1, r2, r3, r4, r5⟩ := h1.cellsL (unhide HLL)
  obtain ⟨A1, C1, L1, S0, S1, S2, S3⟩ := h1.at (unhide HK1)
  obtain ⟨f1, f2, f3, f4⟩ := h1.fz
  have R := (h1.setSt (unhide HK1) 3 (by omega) (.int .i64 (x.st.tries + 1)) { x.st with tries := x.st.tries + 1 } rfl).setPl (get_set (unhide HK1) _) 0
  rw [List.set_set] at R
  have HR := hide R
  have HF2 := hide (((unhide HF1).set (p := ⟨sa, k * 4 + 3, none⟩) (.inr (.inr (.inr rfl))) (.int .i64 (x.st.tries + 1))).set (p := ⟨aa, k, none⟩) (.inl rfl) (.int .i64 0))
  clear h1 R
  go_wp2_with fail
  refine bodyPost_ret (results_none rfl _ _ _) rfl ?_
  exact ⟨rfl, unhide HR, unhide HF2⟩

set_option maxRecDepth 100000 in
set_option maxHeartbeats 1000000 in
theorem rwrite2p (rr b c aa ca la sa n cap k at0 : Nat) (jp : Option Addr) (ws : List Int) (st : Int) (xs : List RJ) (x : RJ) (w : World) (h : RSys w rr b c aa ca la sa n jp cap ws st xs) (hk : xs[k]? = some x) (hat : x.job.at_ = (at0 : Int)) (hn : at0 + 2 < n) (s0 : 0 ≤ st) (s1 : st ≤ 1000000) (hp : x.pl = 2) (hw : 0 < x.job.work) :
    Calls Try.prog 30 #[.pointer (some ⟨rr, 0, none⟩), .int .i64 (k : Int)] w fun e w' => e = .returned (.tuple #[]) ∧ RSys w' rr b c aa ca la sa n jp cap (ws.set (at0 + 1) x.job.A) (st + 1) (xs.set k ({ x with pl := 3, lft := x.job.work })) ∧ FrR b c aa ca la sa w w' := by
  have HW := hide hw
  clear hw
  have K := hide (rstore rr b c aa ca la sa n cap k 1 at0 jp ws st x.job.A xs x w h hk hat (by omega) (by omega) s0 s1)
  have l8 := h.l8
  have hkl := (List.getElem?_eq_some_iff.1 hk).1
  obtain ⟨l, hll⟩ : ∃ l, xs.length = l := ⟨_, rfl⟩
  have j1 : (k : Int) < (l : Int) := by omega
  have j0 : (0 : Int) ≤ (k : Int) := by omega
  obtain ⟨r0, r1, r2, r3, r4, r5⟩ := h.cellsL hll
  obtain ⟨A1, C1, L1, S0, S1, S2, S3⟩ := h.at hk
  obtain ⟨m1, m2, m3, m4, m5, m6, m7, m8, m9, m10, m11, m12⟩ := h.nes
  rw [hp] at A1
  obtain ⟨jb, jo, rfl, hjl, c0, c1, c2, c3, c4⟩ := h.hj k x.job (by simp [hk])
  have HLL := hide hll
  have HH := hide h
  have HK1 := hide hk
  clear hp hll hkl hat hn l8 h hk
  go_enter Try.func30, Try.ntmps30
  go_wp2_with fail
  refine (unhide K).mono ?_
  rintro e w1 ⟨rfl, h1, F1⟩
  have K2 := hide (rnext_pos rr b c aa ca la sa n cap k _ _ _ 3 4 xs x w1 h1 (unhide HK1) (unhide HW))
  clear h1 r0 r1 r2 r3 r4 r5 A1 C1 L1 S0 S1 S2 S3 c0 c1 c2 c3 c4
  go_wp2_with fail
  refine (unhide K2).mono ?_
  rintro e w2 ⟨rfl, h2, F2⟩
  have HR := hide h2
  have HF2 := hide (F1.trans F2)
  clear h2 F2 F1
  go_wp2_with fail
  go_end0
  exact ⟨rfl, unhide HR, unhide HF2⟩

set_option maxRecDepth 100000 in
set_option maxHeartbeats 1000000 in
theorem rwrite2z (rr b c aa ca la sa n cap k at0 : Nat) (jp : Option Addr) (ws : List Int) (st : Int) (xs : List RJ) (x : RJ) (w : World) (h : RSys w rr b c aa ca la sa n jp cap ws st xs) (hk : xs[k]? = some x) (hat : x.job.at_ = (at0 : Int)) (hn : at0 + 2 < n) (s0 : 0 ≤ st) (s1 : st ≤ 1000000) (hp : x.pl = 2) (hw : x.job.work = 0) :
    Calls Try.prog 30 #[.pointer (some ⟨rr, 0, none⟩), .int .i64 (k : Int)] w fun e w' => e = .returned (.tuple #[]) ∧ RSys w' rr b c aa ca la sa n jp cap (ws.set (at0 + 1) x.job.A) (st + 1) (xs.set k ({ x with pl := 4, lft := x.job.work })) ∧ FrR b c aa ca la sa w w' := by
  have HW := hide hw
  clear hw
  have K := hide (rstore rr b c aa ca la sa n cap k 1 at0 jp ws st x.job.A xs x w h hk hat (by omega) (by omega) s0 s1)
  have l8 := h.l8
  have hkl := (List.getElem?_eq_some_iff.1 hk).1
  obtain ⟨l, hll⟩ : ∃ l, xs.length = l := ⟨_, rfl⟩
  have j1 : (k : Int) < (l : Int) := by omega
  have j0 : (0 : Int) ≤ (k : Int) := by omega
  obtain ⟨r0, r1, r2, r3, r4, r5⟩ := h.cellsL hll
  obtain ⟨A1, C1, L1, S0, S1, S2, S3⟩ := h.at hk
  obtain ⟨m1, m2, m3, m4, m5, m6, m7, m8, m9, m10, m11, m12⟩ := h.nes
  rw [hp] at A1
  obtain ⟨jb, jo, rfl, hjl, c0, c1, c2, c3, c4⟩ := h.hj k x.job (by simp [hk])
  have HLL := hide hll
  have HH := hide h
  have HK1 := hide hk
  clear hp hll hkl hat hn l8 h hk
  go_enter Try.func30, Try.ntmps30
  go_wp2_with fail
  refine (unhide K).mono ?_
  rintro e w1 ⟨rfl, h1, F1⟩
  have K2 := hide (rnext_zero rr b c aa ca la sa n cap k _ _ _ 3 4 xs x w1 h1 (unhide HK1) (unhide HW))
  clear h1 r0 r1 r2 r3 r4 r5 A1 C1 L1 S0 S1 S2 S3 c0 c1 c2 c3 c4
  go_wp2_with fail
  refine (unhide K2).mono ?_
  rintro e w2 ⟨rfl, h2, F2⟩
  have HR := hide h2
  have HF2 := hide (F1.trans F2)
  clear h2 F2 F1
  go_wp2_with fail
  go_end0
  exact ⟨rfl, unhide HR, unhide HF2⟩

set_option maxRecDepth 100000 in
set_option maxHeartbeats 1000000 in
theorem rwrite3 (rr b c aa ca la sa n cap k at0 : Nat) (jp : Option Addr) (ws : List Int) (st : Int) (xs : List RJ) (x : RJ) (w : World) (h : RSys w rr b c aa ca la sa n jp cap ws st xs) (hk : xs[k]? = some x) (hat : x.job.at_ = (at0 : Int)) (hn : at0 + 2 < n) (s0 : 0 ≤ st) (s1 : st ≤ 1000000) (hp : x.pl = 3) (f0 : 1 ≤ x.lft) (f1 : x.lft ≤ 100) :
    Calls Try.prog 30 #[.pointer (some ⟨rr, 0, none⟩), .int .i64 (k : Int)] w fun e w' => e = .returned (.tuple #[]) ∧ RSys w' rr b c aa ca la sa n jp cap (ws) (st + 1) (xs.set k ({ x with pl := if x.lft = 1 then 4 else x.pl, lft := x.lft - 1 })) ∧ FrR b c aa ca la sa w w' := by
  have K := hide (rwork rr b c aa ca la sa n cap k at0 jp ws st 4 xs x w h hk hat (by omega) s0 s1 f0 f1)
  have l8 := h.l8
  have hkl := (List.getElem?_eq_some_iff.1 hk).1
  obtain ⟨l, hll⟩ : ∃ l, xs.length = l := ⟨_, rfl⟩
  have j1 : (k : Int) < (l : Int) := by omega
  have j0 : (0 : Int) ≤ (k : Int) := by omega
  obtain ⟨r0, r1, r2, r3, r4, r5⟩ := h.cellsL hll
  obtain ⟨A1, C1, L1, S0, S1, S2, S3⟩ := h.at hk
  obtain ⟨m1, m2, m3, m4, m5, m6, m7, m8, m9, m10, m11, m12⟩ := h.nes
  rw [hp] at A1
  have HLL := hide hll
  have HH := hide h
  have HK1 := hide hk
  clear hp hll hkl hat hn l8 h hk
  generalize ({ x with pl := if x.lft = 1 then 4 else x.pl, lft := x.lft - 1 } : RJ) = x' at *
  go_enter Try.func30, Try.ntmps30
  go_wp2_with fail
  refine (unhide K).mono ?_
  rintro e w1 ⟨rfl, h1, F1⟩
  have HR := hide h1
  have HF2 := hide F1
  clear h1 F1
  go_wp2_with fail
  go_end0
  exact ⟨rfl, unhide HR, unhide HF2⟩

set_option maxRecDepth 100000 in
set_option maxHeartbeats 1000000 in
theorem rwrite4 (rr b c aa ca la sa n cap k at0 : Nat) (jp : Option Addr) (ws : List Int) (st : Int) (xs : List RJ) (x : RJ) (w : World) (h : RSys w rr b c aa ca la sa n jp cap ws st xs) (hk : xs[k]? = some x) (hat : x.job.at_ = (at0 : Int)) (hn : at0 + 2 < n) (s0 : 0 ≤ st) (s1 : st ≤ 1000000) (hp : x.pl = 4) :
    Calls Try.prog 30 #[.pointer (some ⟨rr, 0, none⟩), .int .i64 (k : Int)] w fun e w' => e = .returned (.tuple #[]) ∧ RSys w' rr b c aa ca la sa n jp cap (ws.set (at0 + 2) x.job.B) (st + 1) (xs.set k ({ x with pl := 5 })) ∧ FrR b c aa ca la sa w w' := by
  have K := hide (rstore rr b c aa ca la sa n cap k 2 at0 jp ws st x.job.B xs x w h hk hat (by omega) (by omega) s0 s1)
  have l8 := h.l8
  have hkl := (List.getElem?_eq_some_iff.1 hk).1
  obtain ⟨l, hll⟩ : ∃ l, xs.length = l := ⟨_, rfl⟩
  have j1 : (k : Int) < (l : Int) := by omega
  have j0 : (0 : Int) ≤ (k : Int) := by omega
  obtain ⟨r0, r1, r2, r3, r4, r5⟩ := h.cellsL hll
  obtain ⟨A1, C1, L1, S0, S1, S2, S3⟩ := h.at hk
  obtain ⟨m1, m2, m3, m4, m5, m6, m7, m8, m9, m10, m11, m12⟩ := h.nes
  rw [hp] at A1
  obtain ⟨jb, jo, rfl, hjl, c0, c1, c2, c3, c4⟩ := h.hj k x.job (by simp [hk])
  have HLL := hide hll
  have HH := hide h
  have HK1 := hide hk
  clear hp hll hkl hat hn l8 h hk
  go_enter Try.func30, Try.ntmps30
  go_wp2_with fail
  refine (unhide K).mono ?_
  rintro e w1 ⟨rfl, h1, F1⟩
  clear c0 c1 c2 c3 c4
  clear r0 r1 r2 r3 r4 r5 A1 C1 L1 S0 S1 S2 S3
  obtain ⟨r0, r1, r2, r3, r4, r5⟩ := h1.cellsL (unhide HLL)
  obtain ⟨A1, C1, L1, S0, S1, S2, S3⟩ := h1.at (unhide HK1)
  obtain ⟨f1, f2, f3, f4⟩ := h1.fz
  have HR := hide (h1.setPl (unhide HK1) 5)
  have HF2 := hide (F1.set (p := ⟨aa, k, none⟩) (.inl rfl) (.int .i64 5))
  clear h1 F1
  go_wp2_with fail
  go_end0
  exact ⟨rfl, unhide HR, unhide HF2⟩

set_option maxRecDepth 100000 in
set_option maxHeartbeats 1000000 in
theorem rwrite5 (rr b c aa ca la sa n cap k at0 : Nat) (jp : Option Addr) (ws : List Int) (st : Int) (xs : List RJ) (x : RJ) (w : World) (h : RSys w rr b c aa ca la sa n jp cap ws st xs) (hk : xs[k]? = some x) (hat : x.job.at_ = (at0 : Int)) (hn : at0 + 2 < n) (s0 : 0 ≤ st) (s1 : st ≤ 1000000) (hp : x.pl = 5) :
    Calls Try.prog 30 #[.pointer (some ⟨rr, 0, none⟩), .int .i64 (k : Int)] w fun e w' => e = .returned (.tuple #[]) ∧ RSys w' rr b c aa ca la sa n jp cap (ws.set at0 (IntKind.i64.wrap (x.cnt + 2))) (st + 1) (xs.set k ({ x with st := { x.st with done := true } })) ∧ FrR b c aa ca la sa w w' := by
  have ew : IntKind.i64.wrap (x.cnt + 2) = wrap64 (x.cnt + 2) := by rw [IntKind.wrap_i64]; unfold wrap64; first | rfl | omega | (simp; omega)
  rw [ew]
  clear ew
  have K := hide (rstore rr b c aa ca la sa n cap k 0 at0 jp ws st (wrap64 (x.cnt + 2)) xs x w h hk hat (by omega) (by omega) s0 s1)
  have l8 := h.l8
  have hkl := (List.getElem?_eq_some_iff.1 hk).1
  obtain ⟨l, hll⟩ : ∃ l, xs.length = l := ⟨_, rfl⟩
  have j1 : (k : Int) < (l : Int) := by omega
  have j0 : (0 : Int) ≤ (k : Int) := by omega
  obtain ⟨r0, r1, r2, r3, r4, r5⟩ := h.cellsL hll
  obtain ⟨A1, C1, L1, S0, S1, S2, S3⟩ := h.at hk
  obtain ⟨m1, m2, m3, m4, m5, m6, m7, m8, m9, m10, m11, m12⟩ := h.nes
  rw [hp] at A1
  have HLL := hide hll
  have HH := hide h
  have HK1 := hide hk
  clear hp hll hkl hat hn l8 h hk
  go_enter Try.func30, Try.ntmps30
  go_wp2_with fail
  refine (unhide K).mono ?_
  rintro e w1 ⟨rfl, h1, F1⟩
  clear r0 r1 r2 r3 r4 r5 A1 C1 L1 S0 S1 S2 S3
  obtain ⟨r0, r1, r2, r3, r4, r5⟩ := h1.cellsL (unhide HLL)
  obtain ⟨A1, C1, L1, S0, S1, S2, S3⟩ := h1.at (unhide HK1)
  obtain ⟨f1, f2, f3, f4⟩ := h1.fz
  have HR := hide (h1.setSt (unhide HK1) 0 (by omega) (.bool true) { x.st with done := true } rfl)
  have HF2 := hide (F1.set (p := ⟨sa, k * 4 + 0, none⟩) (.inr (.inr (.inr rfl))) (.bool true))
  clear h1 F1
  go_wp2_with fail
  go_end0
  exact ⟨rfl, unhide HR, unhide HF2⟩
end Go.Proofs.Ytkgeapmafpeapaa
