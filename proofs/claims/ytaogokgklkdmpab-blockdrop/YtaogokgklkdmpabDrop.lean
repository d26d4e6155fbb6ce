/-
  BlockDrop: files share the pool: what one gives back another one may take.
-/
import Derived.Test.YtaogokgklkdmpabWithin
import Derived.Deep.Cut
namespace Go.Proofs.Ytaogokgklkdmpab
open Go.RowKit Go.Maps

theorem cnt_lt (n q : Nat) : cnt n (fun k => decide (k < q)) = min n q := by
  induction n with
  | zero => simp [cnt]
  | succ n ih =>
    rw [cnt_succ, ih]
    by_cases h : n < q
    · simp [h]; omega
    · simp [h]; omega
theorem lacks_empty (n : Nat) (hn : n ≤ 1024) : F.empty.lacks 0 n = (n + 15) / 16 := by
  have e : F.empty.lacks 0 n = cnt 64 (fun k => decide (k < (n + 15) / 16)) := by
    refine cnt_congr fun k _ => ?_
    simp only [F.empty, Bool.not_false, Bool.and_true]
    rw [decide_eq_decide]
    omega
  rw [e, cnt_lt]
  omega
theorem lacks_again (n : Nat) (g : Nat → Int) (hn : 0 < n) : (F.empty.write 0 n g).lacks 0 n = 0 := by
  refine cnt_none fun k _ => ?_
  simp only [F.write, layH, F.empty, Bool.false_or]
  by_cases h : 0 / 16 ≤ k ∧ 16 * k < 0 + n
  · rw [decide_eq_true (show 0 / 16 ≤ k ∧ 16 * k < 0 + n ∧ 0 < n from ⟨h.1, h.2, hn⟩), Bool.not_true, Bool.and_false]
  · rw [decide_eq_false h, Bool.false_and]
theorem used_first (n : Nat) (g : Nat → Int) (hn : 0 < n) (hm : n ≤ 1024) : (F.empty.write 0 n g).used = (n + 15) / 16 := by
  rw [F.used_write F.empty g hn, lacks_empty n hm]
  have : F.empty.used = 0 := cnt_none fun k _ => rfl
  omega
abbrev Zr : Nat → Int := fun _ => 0
/-- A write of noughts from the beginning on. -/
theorem write_zero {s : S} {f : Int} {x : F} (hx : s.get f = some x) {n : Nat} (hn : 0 < n) (hm : n ≤ 1024) :
    writeE s f 0 n = (if x.lacks 0 n ≤ s.left then 0 else 43) ∧ writeS s f 0 n Zr = (if x.lacks 0 n ≤ s.left then s.put f (some (x.write 0 n Zr)) (s.left - x.lacks 0 n) else s) := by
  have h1 : ¬ (0 : Int) < 0 := by omega
  have h2 : ¬ n = 0 := by omega
  have h3 : ¬ (1024 : Int) < 0 + (n : Int) := by omega
  simp only [writeE, writeS, hx, if_neg h1, if_neg h2, if_neg h3, Int.toNat_zero]
  by_cases h : x.lacks 0 n ≤ s.left
  · rw [if_pos h, if_pos h, if_neg (by omega), if_neg (by omega)]
    exact ⟨rfl, rfl⟩
  · rw [if_neg h, if_neg h, if_pos (by omega), if_pos (by omega)]
    exact ⟨rfl, rfl⟩
/-- What the law's calls answer, and what they leave. -/
structure Run (n A C : Nat) (e1 e2 e3 : Int) (s1 s2 s3 s4 : S) : Prop where
  w1 : writeE ((⟨n, []⟩ : S).add.add) 1 0 A = e1
  t1 : writeS ((⟨n, []⟩ : S).add.add) 1 0 A Zr = s1
  w2 : writeE s1 2 0 C = e2
  t2 : writeS s1 2 0 C Zr = s2
  d1 : dropE s2 1 = 0
  t3 : dropS s2 1 = s3
  u3 : s3.get 1 = none
  w3 : writeE s3 2 0 C = e3
  t4 : writeS s3 2 0 C Zr = s4
  l4 : s4.fs.length = 2
  d4 : dropE s4.add 1 = 1
theorem two_get (n : Nat) (j : Int) : ((⟨n, []⟩ : S).add.add).get j = if j = 2 then some F.empty else if j = 1 then some F.empty else none := by
  rw [S.get_add, S.get_add]
  simp [S.add, S.get]
theorem put_len (s : S) (f : Int) (o : Option F) (n : Nat) : (s.put f o n).fs.length = s.fs.length := by simp [S.put]
theorem run_of (n A C : Nat) (hA : 0 < A) (hA2 : A ≤ 1000) (hC : 0 < C) (hC2 : C ≤ 1000) : ∃ s1 s2 s3 s4, Run n A C (if (A + 15) / 16 ≤ n then 0 else 43)
    (if (if (A + 15) / 16 ≤ n then (A + 15) / 16 else 0) + (C + 15) / 16 ≤ n then 0 else 43) (if (C + 15) / 16 ≤ n then 0 else 43) s1 s2 s3 s4 := by
  have g1 : ((⟨n, []⟩ : S).add.add).get 1 = some F.empty := by rw [two_get]; simp
  have g2 : ((⟨n, []⟩ : S).add.add).get 2 = some F.empty := by rw [two_get]; simp
  have hl0 : ((⟨n, []⟩ : S).add.add).left = n := rfl
  have hf0 : ((⟨n, []⟩ : S).add.add).fs.length = 2 := rfl
  obtain ⟨s0, hs0⟩ : ∃ s0, s0 = ((⟨n, []⟩ : S).add.add) := ⟨_, rfl⟩
  rw [← hs0] at g1 g2 hl0 hf0
  have hlA := lacks_empty A (by omega)
  have hlC := lacks_empty C (by omega)
  obtain ⟨N, hN⟩ : ∃ N, N = (A + 15) / 16 := ⟨_, rfl⟩
  obtain ⟨M, hM⟩ : ∃ M, M = (C + 15) / 16 := ⟨_, rfl⟩
  rw [← hN] at hlA
  rw [← hM] at hlC
  rw [← hN, ← hM]
  have hM0 : 0 < M := by omega
  -- the first write
  obtain ⟨p1, p2⟩ := write_zero g1 hA (by omega)
  rw [hlA, hl0] at p1 p2
  -- what is behind it
  have key : ∀ (s1 : S) (x1 : F) (need : Nat), writeE s0 1 0 A = (if N ≤ n then 0 else 43) → writeS s0 1 0 A Zr = s1 → s1.get 1 = some x1 → s1.get 2 = some F.empty → s1.fs.length = 2 → s1.left + need = n → x1.used = need →
      ∃ s1 s2 s3 s4, Run n A C (if N ≤ n then 0 else 43) (if need + M ≤ n then 0 else 43) (if M ≤ n then 0 else 43) s1 s2 s3 s4 := by
    intro s1 x1 need k1 k2 k3 k4 k5 k6 k7
    obtain ⟨q1, q2⟩ := write_zero k4 hC (by omega)
    rw [hlC] at q1 q2
    have tail : ∀ (s2 : S) (y : F) (used : Nat), writeE s1 2 0 C = (if need + M ≤ n then 0 else 43) → writeS s1 2 0 C Zr = s2 → s2.get 1 = some x1 → s2.get 2 = some y → s2.fs.length = 2 → (y.lacks 0 C ≤ s2.left + need ↔ M ≤ n) →
        ∃ s1 s2 s3 s4, Run n A C (if N ≤ n then 0 else 43) (if need + M ≤ n then 0 else 43) (if M ≤ n then 0 else 43) s1 s2 s3 s4 := by
      intro s2 y used m1 m2 m3 m4 m5 m6
      have d1 : dropE s2 1 = 0 := by simp [dropE, m3]
      have d2 : dropS s2 1 = s2.put 1 none (s2.left + x1.used) := by simp [dropS, m3]
      have g3 := fun j => S.get_put m3 none (s2.left + x1.used) j
      have e1 : (dropS s2 1).get 1 = none := by rw [d2, g3]; simp
      have e2 : (dropS s2 1).get 2 = some y := by rw [d2, g3]; simpa using m4
      have e3 : (dropS s2 1).left = s2.left + need := by rw [d2, k7.symm]; rfl
      obtain ⟨r1, r2⟩ := write_zero e2 hC (by omega)
      have hiff : (if y.lacks 0 C ≤ (dropS s2 1).left then (0 : Int) else 43) = if M ≤ n then 0 else 43 := by
        rw [e3]
        by_cases h : M ≤ n
        · rw [if_pos h, if_pos (m6.2 h)]
        · rw [if_neg h, if_neg (fun h2 => h (m6.1 h2))]
      refine ⟨s1, s2, dropS s2 1, writeS (dropS s2 1) 2 0 C Zr, by rw [← hs0]; exact k1, by rw [← hs0]; exact k2, m1, m2, d1, rfl, e1, by rw [r1]; exact hiff, rfl, ?_, ?_⟩
      · rw [r2]
        split
        · rw [put_len, d2, put_len]; exact m5
        · rw [d2, put_len]; exact m5
      · have : ((writeS (dropS s2 1) 2 0 C Zr).add).get 1 = none := by
          rw [S.get_add]
          have hlen : (writeS (dropS s2 1) 2 0 C Zr).fs.length = 2 := by
            rw [r2]
            split
            · rw [put_len, d2, put_len]; exact m5
            · rw [d2, put_len]; exact m5
          rw [hlen]
          rw [if_neg (by decide), r2]
          split
          · rw [S.get_put e2]; simpa using e1
          · exact e1
        simp [dropE, this]
    by_cases c : M ≤ s1.left
    · rw [if_pos c] at q1 q2
      refine tail _ (F.empty.write 0 C Zr) 0 ?_ q2 ?_ ?_ (by rw [put_len]; exact k5) ?_
      · rw [q1, if_pos (by omega)]
      · rw [S.get_put k4]; simpa using k3
      · rw [S.get_put k4]; simp
      · rw [lacks_again C Zr hC]
        exact ⟨fun _ => by omega, fun _ => Nat.zero_le _⟩
    · rw [if_neg c] at q1 q2
      refine tail _ F.empty 0 ?_ q2 k3 k4 k5 ?_
      · rw [q1, if_neg (by omega)]
      · rw [hlC]
        omega
  by_cases c : N ≤ n
  · rw [if_pos c] at p2
    have := key _ (F.empty.write 0 A Zr) N p1 p2 (by rw [S.get_put g1]; simp) (by rw [S.get_put g1]; simpa using g2) (by rw [put_len]; exact hf0) (by simp only [S.put]; omega) (by rw [used_first A Zr hA (by omega), hN])
    simpa [c] using this
  · rw [if_neg c] at p2
    have := key _ F.empty 0 p1 p2 g1 g2 hf0 (by omega) (cnt_none fun k _ => rfl)
    simpa [c] using this
theorem in_made (w : World) (n : Nat) : In (w.alloc (.cells (lst (fun _ => 0) 0 n).toArray 5)) (some ⟨w.heap.size, 0, none⟩) n n (fun _ => 0) := fun _ => ⟨w.heap.size, 0, rfl, Bs.of_row (heap_alloc_new _ _), Nat.le_refl _⟩
set_option maxRecDepth 100000 in
set_option maxHeartbeats 2000000 in
theorem drop_walk (a0 a1 a2 : Int) (w : World) :
    Calls Try.prog 4 #[I a0, I a1, I a2] w fun e w' => e = .returned (.bool true) ∧ Below w.heap.size w w' := by
  go_enter Try.func4, Try.ntmps4
  go_wp2_with fail
  refine (within_any _ _ _ (by omega) (by omega)).mono ?_
  rintro e w0 ⟨⟨r, hr, rfl⟩, rfl⟩
  obtain ⟨n, hn⟩ : ∃ n : Nat, n = 1 + r := ⟨_, rfl⟩
  have hne : (1 + (r : Int)) = (n : Int) := by omega
  have hn21 : n ≤ 21 := by omega
  have n21 : (n : Int) ≤ 21 := by omega
  replace hne := hide hne
  clear hn
  go_wp2_with fail
  rw [unhide hne]
  refine (new_Z _ n rfl (by omega) _).mono ?_
  rintro e w1 ⟨p, rfl, P, B⟩
  go_wp2_with fail
  refine (within_any _ _ _ (by omega) (by omega)).mono ?_
  rintro e w2 ⟨⟨ra, hra, rfl⟩, rfl⟩
  obtain ⟨A, hA⟩ : ∃ n : Nat, n = 1 + ra := ⟨_, rfl⟩
  have hAe : (1 + (ra : Int)) = (A : Int) := by omega
  have hA1 : 0 < A := by omega
  have hA2 : A ≤ 401 := by omega
  have A2 : (A : Int) ≤ 401 := by omega
  replace hAe := hide hAe
  clear hA
  go_wp2_with fail
  rw [unhide hAe]
  refine (within_any _ _ _ (by omega) (by omega)).mono ?_
  rintro e w3 ⟨⟨rc, hrc, rfl⟩, rfl⟩
  obtain ⟨C, hC⟩ : ∃ n : Nat, n = 1 + rc := ⟨_, rfl⟩
  have hCe : (1 + (rc : Int)) = (C : Int) := by omega
  have hC1 : 0 < C := by omega
  have hC2 : C ≤ 401 := by omega
  have C2 : (C : Int) ≤ 401 := by omega
  replace hCe := hide hCe
  clear hC
  go_wp2_with fail
  rw [unhide hCe]
  refine (file_Z (s := ⟨n, []⟩) P 1 rfl (by simp) B).mono ?_
  clear P B
  rintro e w4 ⟨rfl, P, _, B⟩
  go_wp2_with fail
  refine (file_Z (s := (⟨n, []⟩ : S).add) P 2 rfl (by simp [S.add]) B).mono ?_
  clear P B
  rintro e w5 ⟨rfl, P, _, B⟩
  obtain ⟨s1, s2, s3, s4, R⟩ := run_of n A C hA1 (by omega) hC1 (by omega)
  obtain ⟨N, hN⟩ : ∃ N, N = (A + 15) / 16 := ⟨_, rfl⟩
  obtain ⟨M, hM⟩ : ∃ M, M = (C + 15) / 16 := ⟨_, rfl⟩
  rw [← hN, ← hM] at R
  have hNe : ((A : Int) + 16 - 1) / 16 = (N : Int) := by omega
  have hMe : ((C : Int) + 16 - 1) / 16 = (M : Int) := by omega
  have hN2 : N ≤ 30 := by omega
  have hM2 : M ≤ 30 := by omega
  have N2 : (N : Int) ≤ 30 := by omega
  have M2 : (M : Int) ≤ 30 := by omega
  replace hNe := hide hNe
  replace hMe := hide hMe
  clear hN hM
  have hmA := make_run A (by omega)
  have hmC := make_run C (by omega)
  obtain ⟨nd, hnd⟩ : ∃ nd : Nat, nd = if N ≤ n then N else 0 := ⟨_, rfl⟩
  rw [← hnd] at R
  have hnd2 : nd ≤ 30 := by rw [hnd]; split <;> omega
  have nd2 : (nd : Int) ≤ 30 := by omega
  replace hnd := hide hnd
  replace R := hide R
  go_wp2_with fail
  rw [unhide hNe, unhide hMe]
  by_cases c1 : N ≤ n
  · have z1 : (N : Int) ≤ (n : Int) := by omega
    have hnd3 : nd = N := by rw [unhide hnd, if_pos c1]
    refine (write_Z (s := (⟨n, []⟩ : S).add.add) (hide ((unhide P).alloc _)) 1 (by decide) 0 (by decide) _ A A _ (in_made _ A) 0 (by rw [(unhide R).w1, if_pos c1]) (hide ((unhide B).alloc (unhide P).bs _))).mono ?_
    clear P B
    rintro e w6 ⟨rfl, P, _, B⟩
    rw [(unhide R).t1] at P
    have hndI : (nd : Int) = (N : Int) := by omega
    replace hnd3 := hide hnd3
    replace hndI := hide hndI
    go_wp2_with fail
    by_cases c2 : nd + M ≤ n
    · have z2 : (N : Int) + (M : Int) ≤ (n : Int) := by have := unhide hndI; omega
      refine (write_Z (hide ((unhide P).alloc _)) 2 (by decide) 0 (by decide) _ C C _ (in_made _ C) 0 (by rw [(unhide R).w2, if_pos (by omega)]) (hide ((unhide B).alloc (unhide P).bs _))).mono ?_
      clear P B
      rintro e w7 ⟨rfl, P, _, B⟩
      rw [(unhide R).t2] at P
      have z3 : (M : Int) ≤ (n : Int) := by omega
      go_wp2_with fail
      refine (drop_Z P 1 (by decide) 0 (unhide R).d1 B).mono ?_
      clear P B
      rintro e w8 ⟨rfl, P, _, B⟩
      rw [(unhide R).t3] at P
      go_wp2_with fail
      refine (used_Z P 1 (by decide) 0 (by rw [(unhide R).u3]; rfl)).mono ?_
      rintro e w9 ⟨rfl, rfl⟩
      go_wp2_with fail
      refine (size_Z P 1 (by decide) 0 (by rw [(unhide R).u3]; rfl)).mono ?_
      rintro e w10 ⟨rfl, rfl⟩
      go_wp2_with fail
      refine (write_Z (hide ((unhide P).alloc _)) 2 (by decide) 0 (by decide) _ C C _ (in_made _ C) 0 (by rw [(unhide R).w3, if_pos (by omega)]) (hide ((unhide B).alloc (unhide P).bs _))).mono ?_
      clear P B
      rintro e w11 ⟨rfl, P, _, B⟩
      rw [(unhide R).t4] at P
      go_wp2_with fail
      refine (file_Z P 3 (by rw [(unhide R).l4]; rfl) (by rw [(unhide R).l4]; omega) B).mono ?_
      clear P B
      rintro e w12 ⟨rfl, P, _, B⟩
      go_wp2_with fail
      refine (drop_Z P 1 (by decide) 1 (unhide R).d4 B).mono ?_
      clear P B
      rintro e w13 ⟨rfl, P, _, B⟩
      go_wp2_with fail
      refine (known_any _).mono ?_
      rintro e w14 ⟨rfl, K⟩
      go_wp2_with fail
      go_ret
      exact ⟨rfl, (unhide B).trans (K.mono (unhide P).bs)⟩
    · have z2 : ¬ (N : Int) + (M : Int) ≤ (n : Int) := by have := unhide hndI; omega
      refine (write_Z (hide ((unhide P).alloc _)) 2 (by decide) 0 (by decide) _ C C _ (in_made _ C) 43 (by rw [(unhide R).w2, if_neg (by omega)]) (hide ((unhide B).alloc (unhide P).bs _))).mono ?_
      clear P B
      rintro e w7 ⟨rfl, P, _, B⟩
      rw [(unhide R).t2] at P
      by_cases c3 : M ≤ n
      · have z3 : (M : Int) ≤ (n : Int) := by omega
        go_wp2_with fail
        refine (drop_Z P 1 (by decide) 0 (unhide R).d1 B).mono ?_
        clear P B
        rintro e w8 ⟨rfl, P, _, B⟩
        rw [(unhide R).t3] at P
        go_wp2_with fail
        refine (used_Z P 1 (by decide) 0 (by rw [(unhide R).u3]; rfl)).mono ?_
        rintro e w9 ⟨rfl, rfl⟩
        go_wp2_with fail
        refine (size_Z P 1 (by decide) 0 (by rw [(unhide R).u3]; rfl)).mono ?_
        rintro e w10 ⟨rfl, rfl⟩
        go_wp2_with fail
        refine (write_Z (hide ((unhide P).alloc _)) 2 (by decide) 0 (by decide) _ C C _ (in_made _ C) 0 (by rw [(unhide R).w3, if_pos (by omega)]) (hide ((unhide B).alloc (unhide P).bs _))).mono ?_
        clear P B
        rintro e w11 ⟨rfl, P, _, B⟩
        rw [(unhide R).t4] at P
        go_wp2_with fail
        refine (file_Z P 3 (by rw [(unhide R).l4]; rfl) (by rw [(unhide R).l4]; omega) B).mono ?_
        clear P B
        rintro e w12 ⟨rfl, P, _, B⟩
        go_wp2_with fail
        refine (drop_Z P 1 (by decide) 1 (unhide R).d4 B).mono ?_
        clear P B
        rintro e w13 ⟨rfl, P, _, B⟩
        go_wp2_with fail
        refine (known_any _).mono ?_
        rintro e w14 ⟨rfl, K⟩
        go_wp2_with fail
        go_ret
        exact ⟨rfl, (unhide B).trans (K.mono (unhide P).bs)⟩
      · have z3 : ¬ (M : Int) ≤ (n : Int) := by omega
        go_wp2_with fail
        refine (drop_Z P 1 (by decide) 0 (unhide R).d1 B).mono ?_
        clear P B
        rintro e w8 ⟨rfl, P, _, B⟩
        rw [(unhide R).t3] at P
        go_wp2_with fail
        refine (used_Z P 1 (by decide) 0 (by rw [(unhide R).u3]; rfl)).mono ?_
        rintro e w9 ⟨rfl, rfl⟩
        go_wp2_with fail
        refine (size_Z P 1 (by decide) 0 (by rw [(unhide R).u3]; rfl)).mono ?_
        rintro e w10 ⟨rfl, rfl⟩
        go_wp2_with fail
        refine (write_Z (hide ((unhide P).alloc _)) 2 (by decide) 0 (by decide) _ C C _ (in_made _ C) 43 (by rw [(unhide R).w3, if_neg (by omega)]) (hide ((unhide B).alloc (unhide P).bs _))).mono ?_
        clear P B
        rintro e w11 ⟨rfl, P, _, B⟩
        rw [(unhide R).t4] at P
        go_wp2_with fail
        refine (file_Z P 3 (by rw [(unhide R).l4]; rfl) (by rw [(unhide R).l4]; omega) B).mono ?_
        clear P B
        rintro e w12 ⟨rfl, P, _, B⟩
        go_wp2_with fail
        refine (drop_Z P 1 (by decide) 1 (unhide R).d4 B).mono ?_
        clear P B
        rintro e w13 ⟨rfl, P, _, B⟩
        go_wp2_with fail
        refine (known_any _).mono ?_
        rintro e w14 ⟨rfl, K⟩
        go_wp2_with fail
        go_ret
        exact ⟨rfl, (unhide B).trans (K.mono (unhide P).bs)⟩
  · have z1 : ¬ (N : Int) ≤ (n : Int) := by omega
    have hnd3 : nd = 0 := by rw [unhide hnd, if_neg c1]
    refine (write_Z (s := (⟨n, []⟩ : S).add.add) (hide ((unhide P).alloc _)) 1 (by decide) 0 (by decide) _ A A _ (in_made _ A) 43 (by rw [(unhide R).w1, if_neg c1]) (hide ((unhide B).alloc (unhide P).bs _))).mono ?_
    clear P B
    rintro e w6 ⟨rfl, P, _, B⟩
    rw [(unhide R).t1] at P
    have hndI : (nd : Int) = 0 := by omega
    replace hnd3 := hide hnd3
    replace hndI := hide hndI
    go_wp2_with fail
    by_cases c2 : nd + M ≤ n
    · have z2 : (M : Int) ≤ (n : Int) := by have := unhide hndI; omega
      refine (write_Z (hide ((unhide P).alloc _)) 2 (by decide) 0 (by decide) _ C C _ (in_made _ C) 0 (by rw [(unhide R).w2, if_pos (by omega)]) (hide ((unhide B).alloc (unhide P).bs _))).mono ?_
      clear P B
      rintro e w7 ⟨rfl, P, _, B⟩
      rw [(unhide R).t2] at P
      have z3 : (M : Int) ≤ (n : Int) := by omega
      go_wp2_with fail
      refine (drop_Z P 1 (by decide) 0 (unhide R).d1 B).mono ?_
      clear P B
      rintro e w8 ⟨rfl, P, _, B⟩
      rw [(unhide R).t3] at P
      go_wp2_with fail
      refine (used_Z P 1 (by decide) 0 (by rw [(unhide R).u3]; rfl)).mono ?_
      rintro e w9 ⟨rfl, rfl⟩
      go_wp2_with fail
      refine (size_Z P 1 (by decide) 0 (by rw [(unhide R).u3]; rfl)).mono ?_
      rintro e w10 ⟨rfl, rfl⟩
      go_wp2_with fail
      refine (write_Z (hide ((unhide P).alloc _)) 2 (by decide) 0 (by decide) _ C C _ (in_made _ C) 0 (by rw [(unhide R).w3, if_pos (by omega)]) (hide ((unhide B).alloc (unhide P).bs _))).mono ?_
      clear P B
      rintro e w11 ⟨rfl, P, _, B⟩
      rw [(unhide R).t4] at P
      go_wp2_with fail
      refine (file_Z P 3 (by rw [(unhide R).l4]; rfl) (by rw [(unhide R).l4]; omega) B).mono ?_
      clear P B
      rintro e w12 ⟨rfl, P, _, B⟩
      go_wp2_with fail
      refine (drop_Z P 1 (by decide) 1 (unhide R).d4 B).mono ?_
      clear P B
      rintro e w13 ⟨rfl, P, _, B⟩
      go_wp2_with fail
      refine (known_any _).mono ?_
      rintro e w14 ⟨rfl, K⟩
      go_wp2_with fail
      go_ret
      exact ⟨rfl, (unhide B).trans (K.mono (unhide P).bs)⟩
    · have z2 : ¬ (M : Int) ≤ (n : Int) := by have := unhide hndI; omega
      refine (write_Z (hide ((unhide P).alloc _)) 2 (by decide) 0 (by decide) _ C C _ (in_made _ C) 43 (by rw [(unhide R).w2, if_neg (by omega)]) (hide ((unhide B).alloc (unhide P).bs _))).mono ?_
      clear P B
      rintro e w7 ⟨rfl, P, _, B⟩
      rw [(unhide R).t2] at P
      have c3 : ¬ M ≤ n := by have := unhide hnd3; omega
      have z3 : ¬ (M : Int) ≤ (n : Int) := by omega
      go_wp2_with fail
      refine (drop_Z P 1 (by decide) 0 (unhide R).d1 B).mono ?_
      clear P B
      rintro e w8 ⟨rfl, P, _, B⟩
      rw [(unhide R).t3] at P
      go_wp2_with fail
      refine (used_Z P 1 (by decide) 0 (by rw [(unhide R).u3]; rfl)).mono ?_
      rintro e w9 ⟨rfl, rfl⟩
      go_wp2_with fail
      refine (size_Z P 1 (by decide) 0 (by rw [(unhide R).u3]; rfl)).mono ?_
      rintro e w10 ⟨rfl, rfl⟩
      go_wp2_with fail
      refine (write_Z (hide ((unhide P).alloc _)) 2 (by decide) 0 (by decide) _ C C _ (in_made _ C) 43 (by rw [(unhide R).w3, if_neg (by omega)]) (hide ((unhide B).alloc (unhide P).bs _))).mono ?_
      clear P B
      rintro e w11 ⟨rfl, P, _, B⟩
      rw [(unhide R).t4] at P
      go_wp2_with fail
      refine (file_Z P 3 (by rw [(unhide R).l4]; rfl) (by rw [(unhide R).l4]; omega) B).mono ?_
      clear P B
      rintro e w12 ⟨rfl, P, _, B⟩
      go_wp2_with fail
      refine (drop_Z P 1 (by decide) 1 (unhide R).d4 B).mono ?_
      clear P B
      rintro e w13 ⟨rfl, P, _, B⟩
      go_wp2_with fail
      refine (known_any _).mono ?_
      rintro e w14 ⟨rfl, K⟩
      go_wp2_with fail
      go_ret
      exact ⟨rfl, (unhide B).trans (K.mono (unhide P).bs)⟩
end Go.Proofs.Ytaogokgklkdmpab
