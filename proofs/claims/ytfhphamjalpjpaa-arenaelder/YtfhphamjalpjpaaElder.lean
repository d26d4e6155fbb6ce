/-
  ArenaElder answers true: slots are taken and freed in whatever order, the eldest first; a handle that was freed is never good again, and live ones keep what they hold. It holds for every number and every list of Booleans.
-/
import Derived.Test.YtfhphamjalpjpaaElderB
import Derived.Deep.CutRange
import Derived.ProofKit
import Derived.OpenShut
import Derived.ShutString
import Derived.ChangeOld
import Derived.Below
namespace Go.Proofs.Ytfhphamjalpjpaa.arenaElder
open Go.ChangeShapes Go.WideShapes Go.ChangeAt Go.RowKit
open Go.ChangeMaps (open_string shut_string)
set_option linter.unusedVariables false
attribute [local go_sem ↓] Go.wp_at_zero Go.wp_at_succ

theorem own : ownKnob Try.prog.godebug = none := by kernel_rfl
theorem laidOut : laidOutB Try.prog = true := by kernel_rfl

theorem take_yesL (b c d n k : Nat) (gs : List Slot) (q q' : List Nat) (st v g u g1 : Int) (w : World) (hq : q = k :: q') (h : Ar w b c d n gs q st) (hk : gs[k]? = some (g, u)) (g0 : 0 ≤ g) (gm : g ≤ 1000000) (hg : g + 1 = g1) :
    Calls Try.prog 10 #[.pointer (some ⟨b, 0, none⟩), .int .i64 v] w fun e w' => e = .returned (.tuple #[.agg #[.int .i64 (k : Int), .int .i64 g1], .int .i64 0]) ∧ Ar w' b c d n (gs.set k (g + 1, v)) q' st ∧ Fr b c d w w' := by
  subst hg hq
  exact take_yes b c d n k gs q' st v g u w h hk g0 gm

set_option maxRecDepth 100000 in
set_option maxHeartbeats 4000000 in
theorem walk (a0 : Int) (a1 : Option Addr) (len1 cap1 : Nat) (w : World) (hp : Bools w a1 len1) :
    Calls Try.prog 5 #[.int .i64 a0, .slice a1 len1 cap1] w fun e w' => e = .returned (.bool true) ∧ Below w.heap.size w w' := by
  obtain ⟨hml, hrow⟩ := hp
  unfold maxLen at hml
  have HR := hide hrow
  clear hrow
  go_enter Try.func5, Try.ntmps5
  go_wp2_with fail
  refine (within_any a0 7 _ (by omega) (by omega)).mono ?_
  rintro e w1 ⟨⟨n0, p0, p1, rfl⟩, rfl⟩
  obtain ⟨n, hn⟩ : ∃ n : Nat, 1 + n0 = (n : Int) := ⟨(1 + n0).toNat, by omega⟩
  have n1 : 1 ≤ n := by omega
  have n2 : n ≤ 8 := by omega
  have n2' : (n : Int) ≤ 8 := by omega
  go_wp2_with fail
  clear p0 p1 hn
  refine (new_good n (by omega) (by omega) w1).mono ?_
  rintro e w0 ⟨c, d, rfl, hc, hd, hA0, hB⟩
  generalize hw : w1.heap.size = h at *
  have HW := hide hw
  clear hw
  have hb : h ≤ h + 2 := by omega
  generalize h + 2 = b at *
  have hs0 : h ≤ w0.heap.size := by have := hB.size; rw [unhide HW] at this; exact this
  have E0 : ES h w1 w0 b c d n (List.replicate n (0, 0)) (List.range n) 0 (.slice none 0 0) (.slice none 0 0) (.slice none 0 0) (hlv []) (hdd []) (([] : List Lv).map (·.2.2)) :=
    ⟨hA0, Rw.nil _ _ _ _, Rw.nil _ _ _ _, Rw.nil _ _ _ _, by simp [Value.ownBlock], hB, hs0⟩
  have HE0 := hide E0
  clear E0 hA0 hB hs0
  go_wp2_with fail
  go_loopw [7, 8, 9, 10] (fun v7 v8 v9 i wr => ∃ (t : Nat) (gs : List Slot) (q : List Nat) (lv : List Lv) (dd : List (Nat × Int)) (st : Int), t ≤ len1 ∧ t ≤ 100 ∧ i = .int .i64 t ∧ El n t gs q lv dd ∧ dd.length ≤ t ∧ 0 ≤ st ∧ st ≤ 100 * t ∧ ES h w1 wr b c d n gs q st v7 v8 v9 (hlv lv) (hdd dd) (lv.map (·.2.2))) (fun _ _ _ i _ => 100 - (intOf i).toNat)
  case atStart => exact ⟨0, _, _, [], [], 0, Nat.zero_le _, Nat.zero_le _, rfl, El.start n, Nat.le_refl _, Int.le_refl _, by omega, unhide HE0⟩
  case round =>
    obtain ⟨t, gs, q, lv, dd, st, ht1, ht2, rfl, hL, hdl, s0, s1, E⟩ := hrel
    clear HE0
    have hlen := hL.len
    obtain ⟨p7, c7, rfl, hc7⟩ := E.r7.form
    obtain ⟨p8, c8, rfl, hc8⟩ := E.r8.form
    obtain ⟨p9, c9, rfl, hc9⟩ := E.r9.form
    simp only [List.length_map] at E hc7 hc8 hc9 ⊢
    have HL := hide hL
    have HE := hide E
    clear hL E
    by_cases htl : t < len1
    · have j1 : (t : Int) < (len1 : Int) := by omega
      have j0 : (0 : Int) ≤ (t : Int) := by omega
      by_cases ht : t < 100
      · have j2 : (t : Int) < 100 := by omega
        obtain ⟨ob, off, x, rfl, hob, hcx⟩ := unhide HR t htl
        have hcx2 := ((unhide HE).be.cell (p := ⟨ob, off + t, none⟩) hob).trans hcx
        clear hcx
        go_upto_if 46 with fail
        go_cut [7, 8, 9] from 33 to 130 (fun v7 v8 v9 wc => ∃ (gs : List Slot) (q : List Nat) (lv : List Lv) (dd : List (Nat × Int)), El n ((t : Int) + 1) gs q lv dd ∧ dd.length ≤ t + 1 ∧ ES h w1 wc b c d n gs q st v7 v8 v9 (hlv lv) (hdd dd) (lv.map (·.2.2)))
        case first =>
          clear hcx2
          generalize hll : lv.length = l at *
          generalize hdn : dd.length = dl at *
          have HLL := hide hll
          have HDN := hide hdn
          clear hll hdn
          cases x with
          | true =>
            cases q with
            | nil =>
              have HT := hide (take_no b c d n gs st (t : Int) wr (unhide HE).ar)
              have e1 : l = n := by simpa using hlen
              subst e1
              clear hlen
              go_wp2_with fail
              refine (unhide HT).mono ?_
              rintro e w2 ⟨rfl, hA2, hB2⟩
              have E2 := ((unhide HE).below hB2).alloc (hObj 0 0)
              have HE2 := hide E2
              clear hA2 hB2 HT E2
              go_wp2_with fail
              go_meet
              case rel => exact ⟨gs, [], lv, dd, (unhide HL).mono (by omega), by rw [unhide HDN]; omega, unhide HE2⟩
            | cons k q =>
              obtain ⟨g, u, hk, ho⟩ := (unhide HL).fit.ev k (by simp)
              have hbd := (unhide HL).fit.bd k g u hk
              obtain ⟨g1, hg1⟩ : ∃ g1, g + 1 = g1 := ⟨_, rfl⟩
              have HT := hide (take_yesL b c d n k gs _ q st (t : Int) g u g1 wr rfl (unhide HE).ar hk hbd.1 (by omega) hg1)
              have hL2 := (unhide HL).take (v := (t : Int)) hk
              rw [hg1] at hL2
              have HL2 := hide hL2
              have j3 : l < n := by simp at hlen; omega
              have j4 : (l : Int) < (n : Int) := by omega
              clear hlen hL2 hk ho hbd
              go_wp2_with fail
              refine (unhide HT).mono ?_
              rintro e w2 ⟨rfl, hA2, hF2⟩
              rw [hg1] at hA2
              have E2 := (unhide HE).fr hA2 hF2 hb hc hd
              obtain ⟨w3, hx, k3, hK, hz⟩ := stored w2 (k : Int) g1
              obtain ⟨y0, y1, yf⟩ := hcells k3
              have E3 := (E2.below hK).alloc (hObj (k : Int) g1)
              obtain ⟨v5, w5, r5, E5⟩ := E3.app7 (putAll (w := w3) (hObj (k : Int) g1) w3.heap.size rfl) (by rw [List.length_map, unhide HLL]; omega)
              obtain ⟨v6, w6, r6, E6⟩ := (E5.alloc (.cells #[.int .i64 (t : Int)] 2)).app9 (putAll (w := w5) (.cells #[.int .i64 (t : Int)] 2) w5.heap.size rfl) (by rw [List.length_map, unhide HLL]; omega)
              have HE6 := hide E6
              clear hA2 hF2 HT E2 E3 E5 E6 k3 hK hz hg1
              go_wp2_with (first
                | (at_builtin; refine wpList_append_eq rfl _ _ 36 rfl 36 rfl _ _ rfl rfl _ _ r5 ?_)
                | (at_builtin; refine wpList_append_eq rfl _ _ 52 rfl 52 rfl _ _ rfl rfl _ _ r6 ?_))
              go_meet
              case rel => exact ⟨_, q, lv ++ [(k, g1, (t : Int))], dd, unhide HL2, by rw [unhide HDN]; omega, by simpa using unhide HE6⟩
          | false =>
            cases lv with
            | nil =>
              have e1 : l = 0 := by have := unhide HLL; simpa using this.symm
              subst e1
              go_wp2_with fail
              go_meet
              case rel => exact ⟨gs, q, [], dd, (unhide HL).mono (by omega), by rw [unhide HDN]; omega, unhide HE⟩
            | cons y lv =>
              obtain ⟨s, g, u⟩ := y
              obtain ⟨m, hm⟩ : ∃ m, lv.length = m := ⟨_, rfl⟩
              have e1 : l = m + 1 := by have := unhide HLL; simp at this; omega
              subst e1
              obtain ⟨g7, o7, c7', e7, hcc7, hcm7⟩ := (unhide HE).r7.open_ (by simp)
              obtain ⟨g9, o9, c9', e9, hcc9, hcm9⟩ := (unhide HE).r9.open_ (by simp)
              simp only [Value.slice.injEq] at e7 e9
              obtain ⟨rfl, -, rfl⟩ := e7
              obtain ⟨rfl, -, rfl⟩ := e9
              have z0 : wr.cell? ⟨g7, o7, none⟩ = some (.int .i64 (s : Int)) := (unhide HE).r7.cell (j := 0) rfl
              have z1 : wr.cell? ⟨g7, o7 + 1, none⟩ = some (.int .i64 g) := (unhide HE).r7.cell (j := 1) rfl
              obtain ⟨hgs, ho⟩ := (unhide HL).lvOk (s, g, u) (by simp)
              simp only at hgs ho
              have hbd := (unhide HL).fit.bd s g u hgs
              have hq := ((unhide HL).fit.free (v := 0) hgs ho).2
              have HT := hide (free_ok b c d n s gs q st g u wr (unhide HE).ar hgs hbd.1 ho (by omega) hq)
              have HL2 := hide (unhide HL).free
              have j3 : (0 : Int) < ((m + 1 : Nat) : Int) := by omega
              generalize hM : m + 1 = M at *
              have HM := hide hM
              have j5 : (1 : Int) ≤ (M : Int) := by omega
              have j6 : (M : Int) ≤ (c7 : Int) := by omega
              have j7 : (M : Int) ≤ (c9 : Int) := by omega
              clear hlen hgs ho hbd hq hM
              go_wp2_with fail
              refine (unhide HT).mono ?_
              rintro e w2 ⟨rfl, hA2, hF2⟩
              have E2 := (unhide HE).fr hA2 hF2 hb hc hd
              have q0 : w2.cell? ⟨g7, o7, none⟩ = some (.int .i64 (s : Int)) := E2.r7.cell (j := 0) rfl
              have q1 : w2.cell? ⟨g7, o7 + 1, none⟩ = some (.int .i64 g) := E2.r7.cell (j := 1) rfl
              have E3 := E2.alloc (hObj (s : Int) g)
              obtain ⟨v5, w5, r5, E5⟩ := E3.app8 (putAll (w := w2) (hObj (s : Int) g) w2.heap.size rfl) (by rw [List.length_map, unhide HDN]; omega)
              rw [← unhide HM] at E5
              have E6 := ES.cut (m := m) (by rw [List.length_map, hm]) (by rw [List.length_map, hm]) E5
              have e7 : m = M - 1 := by have := unhide HM; omega
              rw [e7] at E6
              clear hA2 hF2 HT E2 E3 E5 z0 z1 e7
              by_cases h7 : c7 = 1
              · by_cases h9 : c9 = 1
                · rw [if_pos h7] at E6
                  subst h7
                  rw [if_pos h9] at E6
                  subst h9
                  obtain rfl : M = 1 := by omega
                  simp only [Nat.sub_self] at E6
                  have HE6 := hide E6
                  clear E6
                  go_wp2_with (first
                    | (at_builtin; refine wpList_append_eq rfl _ _ 36 rfl 36 rfl _ _ rfl rfl _ _ r5 ?_))
                  go_meet
                  case rel => exact ⟨_, _, lv, dd ++ [(s, g)], unhide HL2, by simp [unhide HDN]; omega, by simpa [hlv, hdd] using unhide HE6⟩
                · rw [if_pos h7] at E6
                  subst h7
                  rw [if_neg h9] at E6
                  obtain rfl : M = 1 := by omega
                  simp only [Nat.sub_self] at E6
                  have HE6 := hide E6
                  clear E6
                  go_wp2_with (first
                    | (at_builtin; refine wpList_append_eq rfl _ _ 36 rfl 36 rfl _ _ rfl rfl _ _ r5 ?_))
                  go_meet
                  case rel => exact ⟨_, _, lv, dd ++ [(s, g)], unhide HL2, by simp [unhide HDN]; omega, by simpa [hlv, hdd] using unhide HE6⟩
              · by_cases h9 : c9 = 1
                · rw [if_neg h7] at E6
                  rw [if_pos h9] at E6
                  subst h9
                  obtain rfl : M = 1 := by omega
                  simp only [Nat.sub_self] at E6
                  have HE6 := hide E6
                  clear E6
                  go_wp2_with (first
                    | (at_builtin; refine wpList_append_eq rfl _ _ 36 rfl 36 rfl _ _ rfl rfl _ _ r5 ?_))
                  go_meet
                  case rel => exact ⟨_, _, lv, dd ++ [(s, g)], unhide HL2, by simp [unhide HDN]; omega, by simpa [hlv, hdd] using unhide HE6⟩
                · rw [if_neg h7] at E6
                  rw [if_neg h9] at E6
                  have HE6 := hide E6
                  clear E6
                  go_wp2_with (first
                    | (at_builtin; refine wpList_append_eq rfl _ _ 36 rfl 36 rfl _ _ rfl rfl _ _ r5 ?_))
                  go_meet
                  case rel => exact ⟨_, _, lv, dd ++ [(s, g)], unhide HL2, by simp [unhide HDN]; omega, by simpa [hlv, hdd] using unhide HE6⟩
        case rest =>
          obtain ⟨gs, q, lv, dd, hL, hdl, E⟩ := hcut
          have hlen := hL.len
          obtain ⟨p7, c7, rfl, hc7⟩ := E.r7.form
          obtain ⟨p8, c8, rfl, hc8⟩ := E.r8.form
          obtain ⟨p9, c9, rfl, hc9⟩ := E.r9.form
          simp only [List.length_map] at E hc7 hc8 hc9 ⊢
          have HL := hide hL
          have HE := hide E
          clear hL E hcx2
          generalize hll : lv.length = l at *
          generalize hdn : dd.length = dl at *
          have HLL := hide hll
          have HDN := hide hdn
          clear hll hdn
          have hl8 : l ≤ 8 := by omega
          go_wp2_with fail
          go_loopw [13] (fun i wr => ∃ k : Nat, k ≤ dl ∧ i = .int .i64 k ∧ ES h w1 wr b c d n gs q (st + k) (.slice p7 l c7) (.slice p8 dl c8) (.slice p9 l c9) (hlv lv) (hdd dd) (lv.map (·.2.2))) (fun i _ => dl - (intOf i).toNat)
          case atStart => exact ⟨0, Nat.zero_le _, rfl, by simpa using unhide HE⟩
          case round =>
            obtain ⟨k, hk, rfl, E⟩ := hrel
            clear HE
            by_cases hkd : k < dl
            · have j3 : (k : Int) < (dl : Int) := by omega
              have j4 : (0 : Int) ≤ (k : Int) := by omega
              obtain ⟨y, hy⟩ : ∃ y, dd[k]? = some y := ⟨_, List.getElem?_eq_getElem (by rw [unhide HDN]; exact hkd)⟩
              obtain ⟨s, x⟩ := y
              obtain ⟨g, v, hgs, hlt⟩ := (unhide HL).ddOk (s, x) (List.mem_of_getElem? hy)
              simp only at hgs hlt
              have hbd := (unhide HL).fit.bd s g v hgs
              have r8 := E.r8
              obtain ⟨g8, o8, c8', e8, -, -⟩ := r8.open_ (by rw [List.length_map, unhide HDN]; omega)
              simp only [Value.slice.injEq] at e8
              obtain ⟨rfl, -, rfl⟩ := e8
              have q0 := rowsOf_get Slot.row 2 Slot.row_length (hdd dd) k 0 ((s : Int), x) (by simp [hdd, hy]) (by omega)
              have q1 := rowsOf_get Slot.row 2 Slot.row_length (hdd dd) k 1 ((s : Int), x) (by simp [hdd, hy]) (by omega)
              rw [Nat.mul_comm] at q0 q1
              have z0 : wr.cell? ⟨g8, o8 + k * 2, none⟩ = some (.int .i64 (s : Int)) := r8.cell q0
              have z1 : wr.cell? ⟨g8, o8 + k * 2 + 1, none⟩ = some (.int .i64 x) := r8.cell q1
              have HT := hide (get_bad b c d n gs q (st + k) (s : Int) x 14 1 wr E.ar (.inr ⟨rfl, rfl, s, g, v, rfl, hgs, hbd.1, by omega⟩) (by omega) (by omega))
              have HE := hide E
              clear E r8 q0 q1 hy hgs hlt hbd hlen
              go_wp2_with fail
              refine (unhide HT).mono ?_
              rintro e w2 ⟨rfl, hA2, hF2⟩
              have E2 := (unhide HE).fr hA2 hF2 hb hc hd
              have HE2 := hide E2
              clear hA2 hF2 HT E2 HE
              go_wp2_with fail
              go_roundw
              case rel => exact ⟨k + 1, by omega, by go_num, by have t := unhide HE2; rw [Int.add_assoc] at t; exact t⟩
              case measure => simp [intOf]; omega
            · obtain rfl : k = dl := by omega
              have HE := hide E
              clear E hkd hk
              go_wp2_with fail
              go_loopw [16] (fun i wr => ∃ j : Nat, j ≤ l ∧ i = .int .i64 j ∧ ES h w1 wr b c d n gs q (st + k) (.slice p7 l c7) (.slice p8 k c8) (.slice p9 l c9) (hlv lv) (hdd dd) (lv.map (·.2.2))) (fun i _ => l - (intOf i).toNat)
              case atStart => exact ⟨0, Nat.zero_le _, rfl, unhide HE⟩
              case round =>
                obtain ⟨j, hj, rfl, E⟩ := hrel
                clear HE
                by_cases hjl : j < l
                · have j3 : (j : Int) < (l : Int) := by omega
                  have j4 : (0 : Int) ≤ (j : Int) := by omega
                  obtain ⟨y, hy⟩ : ∃ y, lv[j]? = some y := ⟨_, List.getElem?_eq_getElem (by rw [unhide HLL]; exact hjl)⟩
                  obtain ⟨s, g, u⟩ := y
                  obtain ⟨hgs, ho⟩ := (unhide HL).lvOk (s, g, u) (List.mem_of_getElem? hy)
                  simp only at hgs ho
                  have hbd := (unhide HL).fit.bd s g u hgs
                  have r7 := E.r7
                  have r9 := E.r9
                  obtain ⟨g7, o7, c7', e7, -, -⟩ := r7.open_ (by rw [List.length_map, unhide HLL]; omega)
                  obtain ⟨g9, o9, c9', e9, -, -⟩ := r9.open_ (by rw [List.length_map, unhide HLL]; omega)
                  simp only [Value.slice.injEq] at e7 e9
                  obtain ⟨rfl, -, rfl⟩ := e7
                  obtain ⟨rfl, -, rfl⟩ := e9
                  have q0 := rowsOf_get Slot.row 2 Slot.row_length (hlv lv) j 0 ((s : Int), g) (by simp [hlv, hy]) (by omega)
                  have q1 := rowsOf_get Slot.row 2 Slot.row_length (hlv lv) j 1 ((s : Int), g) (by simp [hlv, hy]) (by omega)
                  rw [Nat.mul_comm] at q0 q1
                  have z0 : wr.cell? ⟨g7, o7 + j * 2, none⟩ = some (.int .i64 (s : Int)) := r7.cell q0
                  have z1 : wr.cell? ⟨g7, o7 + j * 2 + 1, none⟩ = some (.int .i64 g) := r7.cell q1
                  have HT := hide (get_ok b c d n s gs q (st + k) g u wr E.ar hgs hbd.1 ho)
                  have HE := hide E
                  have HY := hide hy
                  clear E r7 r9 q0 q1 hgs ho hbd hlen hy
                  go_wp2_with fail
                  refine (unhide HT).mono ?_
                  rintro e w2 ⟨rfl, hB2⟩
                  have E2 := (unhide HE).below hB2
                  have z9 : w2.cell? ⟨g9, o9 + j, none⟩ = some (.int .i64 u) := E2.r9.cell (j := j) (by simp [unhide HY])
                  have HE2 := hide E2
                  clear hB2 HT E2 HE z0 z1
                  go_wp2_with fail
                  go_roundw
                  case rel => exact ⟨j + 1, by omega, by go_num, unhide HE2⟩
                  case measure => simp [intOf]; omega
                · obtain rfl : j = l := by omega
                  have HE := hide E
                  clear E hjl hj
                  go_wp2_with fail
                  go_roundw
                  case rel => exact ⟨t + 1, gs, q, lv, dd, st + k, by omega, by omega, by go_num, by have t' := unhide HL; simpa using t', by rw [unhide HDN]; omega, by omega, by omega, unhide HE⟩
                  case measure => simp [intOf]; omega
      · obtain rfl : t = 100 := by omega
        generalize hll : lv.length = l at *
        have HLL := hide hll
        generalize hdn : dd.length = dl at *
        have HLV := hide (live_all b c d n gs q st wr (unhide HE).ar (unhide HL).fit.nn)
        have hll2 := (unhide HL).fit.lives
        have HQ := hide (show q.length = n - l by omega)
        clear hll hdn
        go_wp2_with fail
        refine (unhide HLV).mono ?_
        rintro e w2 ⟨v, rfl, own, hB2⟩
        obtain ⟨pa, pc, rfl, -⟩ := (Rw.of_own own).form
        have E2 := (unhide HE).below hB2
        have e1 : (lives gs n).length = l := by omega
        rw [e1]
        have HLF := hide (left_any b c d n gs q st w2 E2.ar (n - l) (unhide HQ))
        have e2 : ((n - l : Nat) : Int) = (n : Int) - (l : Int) := by omega
        rw [e2] at HLF
        have hB3 := E2.be
        have hs3 := E2.sz
        clear own hB2 HLV E2 hlen hll2 e1
        go_wp2_with fail
        refine (unhide HLF).mono ?_
        rintro e w3 ⟨rfl, rfl⟩
        go_wp2_with fail
        refine (known_true w3).mono ?_
        rintro e w4 ⟨rfl, hB4⟩
        go_wp2_with fail
        go_ret
        rw [unhide HW]
        exact ⟨rfl, hB3.trans (hB4.mono hs3)⟩
    · obtain rfl : t = len1 := by omega
      generalize hll : lv.length = l at *
      have HLL := hide hll
      generalize hdn : dd.length = dl at *
      have HLV := hide (live_all b c d n gs q st wr (unhide HE).ar (unhide HL).fit.nn)
      have hll2 := (unhide HL).fit.lives
      have HQ := hide (show q.length = n - l by omega)
      clear hll hdn
      go_wp2_with fail
      refine (unhide HLV).mono ?_
      rintro e w2 ⟨v, rfl, own, hB2⟩
      obtain ⟨pa, pc, rfl, -⟩ := (Rw.of_own own).form
      have E2 := (unhide HE).below hB2
      have e1 : (lives gs n).length = l := by omega
      rw [e1]
      have HLF := hide (left_any b c d n gs q st w2 E2.ar (n - l) (unhide HQ))
      have e2 : ((n - l : Nat) : Int) = (n : Int) - (l : Int) := by omega
      rw [e2] at HLF
      have hB3 := E2.be
      have hs3 := E2.sz
      clear own hB2 HLV E2 hlen hll2 e1
      go_wp2_with fail
      refine (unhide HLF).mono ?_
      rintro e w3 ⟨rfl, rfl⟩
      go_wp2_with fail
      refine (known_true w3).mono ?_
      rintro e w4 ⟨rfl, hB4⟩
      go_wp2_with fail
      go_ret
      rw [unhide HW]
      exact ⟨rfl, hB3.trans (hB4.mono hs3)⟩

set_option maxRecDepth 100000 in
theorem lifted (os : Os) (started : os.Started) (H : Type) (enc : TypeId × Value → H) :
    ReturnsInHanded {} Try.checked os 5 .any (Rows.arenaElderSpec.pre6 enc Try.prog Try.f5 Rows.arenaElderRow.domain false) (Rows.arenaElderSpec.post enc Try.prog Try.f5 false true false false) := by
  refine returnsInHanded_of_change (C := Try.checked) own started (by kernel_rfl) Try.func5
    (ChangeSpec.witness6 (enc := enc) (C := Try.checked) false ⟨#[], #[.int .i64 0, .slice none 0 0], []⟩ 8 (by kernel_rfl) (by kernel_rfl) (by kernel_rfl) (by kernel_rfl)) ?_
  intro W base args ds gs before hval0 hW hcnd _
  have hval : ∀ (j : Nat) t v, Try.f5.params[j]? = some t → args[j]? = some v → Value.okWide Try.prog W .any base t v := hval0
  have hW' := hW
  obtain ⟨p, q, hA0, hV, rfl, hfz, hnd⟩ := hW
  have hA : DataW.TrodAll enc Try.prog W 0 (fun _ => true) true Try.f5.params.toList args.toList ds p := hA0
  rw [Try.params5] at hA hval
  obtain ⟨v0, vs0, d0, ds0, p0, q0, hargs, rfl, rfl, h0, r0⟩ := trodAll_cons hA
  obtain ⟨v1, vs1, d1, ds1, p1, q1, rfl, rfl, rfl, h1, r1⟩ := trodAll_cons r0
  obtain ⟨rfl, rfl, rfl⟩ := trodAll_nil r1
  obtain rfl : args = #[v0, v1] := by cases args; simp_all
  obtain ⟨rfl, rfl⟩ := trodVars_none hV
  obtain ⟨a0, rfl, rfl, rfl, w0⟩ := open_int Try.underlying3 (hval 0 3 v0 rfl rfl) h0
  obtain ⟨a1, len1, cap1, rfl⟩ := okWide_slice Try.underlying59 (hval 1 59 v1 rfl rfl)
  have k1 := h1
  have lt1 : ∀ x ∈ p1, x.block < W.heap.size := by obtain ⟨m, hm⟩ := k1; exact DataW.trod_lt m _ _ _ hm
  have w1 : Bools W a1 len1 := by
    obtain ⟨fuel, hf⟩ := h1
    exact bools_of (by simpa [Value.cells] using hf)
  clear hA0 hval0
  refine (walk a0 a1 len1 cap1 W w1).mono fun e W' ⟨he, bel⟩ => ?_
  subst he
  exact ⟨_, rfl, _, _, _, [], _, [], hW', trodAll_mk1 (shut_bool Try.underlying4 _), (trodAll_cons_mk (shut_int Try.underlying3 w0) (trodAll_cons_mk (Below.trod laidOut (by kernel_rfl) (of_decide_eq_true (by kernel_rfl)) k1 bel lt1) trodAll_mk0)), rfl, bel.frame _, fun h => by cases h⟩

theorem over : Rows.arenaElderRow.holds Try.pinned (OpenSpec.ofChange Rows.arenaElderSpec) :=
  OpenClaim.holds_of_wide 5 Try.f5 rfl rfl rfl rfl rfl rfl rfl ⟨rfl, rfl, rfl, rfl, rfl⟩ rfl rfl rfl rfl rfl (by kernel_rfl) Try.func5 (by kernel_rfl)
    (of_decide_eq_true (by kernel_rfl)) (by unfold Func.isWrapper; first | (rw [if_pos (by decide +kernel)]; kernel_rfl) | (rw [if_neg (by decide +kernel)]; exact ⟨rfl, rfl⟩))
    (fun os started H enc _ => lifted os started H enc)

end Go.Proofs.Ytfhphamjalpjpaa.arenaElder

namespace Go.Proofs.Ytfhphamjalpjpaa
/-- ArenaElder answers true. -/
theorem arenaElder_proved : Rows.ArenaElderSaid := arenaElder.over
#print axioms arenaElder_proved
end Go.Proofs.Ytfhphamjalpjpaa
