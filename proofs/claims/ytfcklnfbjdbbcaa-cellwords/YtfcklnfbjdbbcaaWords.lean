/-
  CellWords: what cells hold is what was stored last in each, or swapped in. No conditions.
-/
import Derived.Test.YtfcklnfbjdbbcaaAsks
import Derived.OpenShut
import Derived.ShutString
import Derived.ChangeOld
namespace Go.Proofs.Ytfcklnfbjdbbcaa.cellWords
open Go.ChangeShapes Go.WideShapes Go.ChangeAt Go.RowKit
attribute [local go_sem ↓] Go.wp_at_zero Go.wp_at_succ

theorem own : ownKnob Try.prog.godebug = none := by kernel_rfl
theorem laidOut : laidOutB Try.prog = true := by kernel_rfl

set_option maxRecDepth 100000 in
set_option maxHeartbeats 1000000 in
theorem walk (a1 : Option Addr) (len1 cap1 : Nat) (w : World) (w1 : Asks w a1 len1) :
    Calls Try.prog 5 #[.slice a1 len1 cap1] w fun e w' => e = .returned (.bool true) ∧ Below w.heap.size w w' := by
  obtain ⟨hml, hrow⟩ := w1
  unfold maxLen at hml
  have HR := hide hrow
  clear hrow
  go_enter Try.func5, Try.ntmps5
  go_wp2_with fail
  refine (new_i 8 (by omega) (by omega) _).mono ?_
  rintro e w2 ⟨rfl, hM2, hB2⟩
  replace hM2 : Mem w2 (w.heap.size + 1) w.heap.size 8 [0, 0, 0, 0, 0, 0, 0, 0] 0 0 0 0 0 false := hM2
  go_wp2_with fail
  have hG := putAll (w := w2) (.cells #[.int .i64 0, .int .i64 0, .int .i64 0, .int .i64 0, .int .i64 0, .int .i64 0, .int .i64 0, .int .i64 0] 50) w2.heap.size rfl
  have hM3 := hM2.alloc (.cells #[.int .i64 0, .int .i64 0, .int .i64 0, .int .i64 0, .int .i64 0, .int .i64 0, .int .i64 0, .int .i64 0] 50)
  have hB3 := hB2.alloc hB2.size (.cells #[.int .i64 0, .int .i64 0, .int .i64 0, .int .i64 0, .int .i64 0, .int .i64 0, .int .i64 0, .int .i64 0] 50)
  have gb := hM2.blt
  generalize w2.alloc (.cells #[.int .i64 0, .int .i64 0, .int .i64 0, .int .i64 0, .int .i64 0, .int .i64 0, .int .i64 0, .int .i64 0] 50) = w3 at hG hM3 hB3 ⊢
  generalize w2.heap.size = g at hG gb ⊢
  generalize hh : w.heap.size = h at *
  have Hh := hide hh
  clear hh hM2 hB2
  have HG := hide hG
  clear hG
  go_loopw [6] (fun i wr => ∃ (k : Nat) (ws : List Int) (st kk aa oo vv : Int) (dd : Bool), k ≤ len1 ∧ k ≤ 200 ∧ i = .int .i64 k ∧ 0 ≤ st ∧ st ≤ k ∧ Mem wr (h + 1) h 8 ws st kk aa oo vv dd ∧
    wr.heap[g]? = some (.cells (ws.map (Value.int .i64)).toArray 50) ∧ Below h w wr) (fun i _ => 200 - (intOf i).toNat)
  case atStart => exact ⟨0, [0, 0, 0, 0, 0, 0, 0, 0], 0, 0, 0, 0, 0, false, by omega, by omega, rfl, by omega, by omega, hM3, unhide HG, hB3⟩
  case round =>
    obtain ⟨k, ws, st, kk, aa, oo, vv, dd, hk1, hk2, rfl, s0, s1, hMr, hGr, hBr⟩ := hrel
    clear hM3 hB3 HG
    have hsz := hBr.size
    have hgl : g < wr.heap.size := (Array.getElem?_eq_some_iff.1 hGr).1
    by_cases hin : k < len1 ∧ k < 200
    · obtain ⟨h1, h2⟩ := hin
      have j1 : (k : Int) < (len1 : Int) := by omega
      have j2 : (k : Int) < 200 := by omega
      obtain ⟨b, off, kd, at_, o, n, rfl, hbl, c0, c1, c2, c3⟩ := unhide HR k h1
      replace c0 := (hBr.cell (p := ⟨b, off + k * 4, none⟩) hbl).trans c0
      replace c1 := (hBr.cell (p := ⟨b, off + k * 4 + 1, none⟩) hbl).trans c1
      replace c2 := (hBr.cell (p := ⟨b, off + k * 4 + 2, none⟩) hbl).trans c2
      replace c3 := (hBr.cell (p := ⟨b, off + k * 4 + 3, none⟩) hbl).trans c3
      have HGr := hide hGr
      clear hGr
      go_wp2_with fail
      refine (within_any at_ 7 _ (by omega) (by omega)).mono ?_
      rintro e wr ⟨⟨r, r0, r7, rfl⟩, rfl⟩
      obtain ⟨rn, rfl⟩ := Int.eq_ofNat_of_zero_le r0
      have r8 : (rn : Int) < 8 := by omega
      have r8n : rn < 8 := by omega
      have hl8 : ws.length = 8 := hMr.len
      have HL := hide hl8
      clear hl8
      have kb : b ≠ h + 1 := by omega
      have kc : b ≠ h := by omega
      by_cases hm : kd.tmod 2 = 0
      · have hm1 : (kd.tmod 2 == 0) = true := by simp [hm]
        clear hm
        go_wp2_with fail
        refine (store_yes (h + 1) h 8 rn ws st kk aa oo vv dd n _ hMr r8n s0 (by omega)).mono ?_
        rintro e w6 ⟨rfl, hM6, hF6⟩
        have hG6 := (hF6.block g hgl (by omega) (by omega)).trans (unhide HGr)
        have d3 := (hF6.cell (p := ⟨b, off + k * 4 + 3, none⟩) (by show b < _; omega) kb kc).trans c3
        obtain ⟨v6, hv6⟩ : ∃ v, w6.cell? ⟨g, rn, none⟩ = some v := by
          rw [cell_of hG6]; exact ⟨_, Array.getElem?_eq_getElem (by simp [unhide HL]; omega)⟩
        have hf6 := frozen_of hG6 rn
        have HG6 := hide hG6
        clear hG6
        have z6 := hF6.size
        clear c0 c1 c2 c3
        go_wp2
        go_roundw
        case rel =>
          refine ⟨k + 1, ws.set rn n, st + 1, _, _, _, _, _, by omega, by omega, by go_num, by omega, by omega, hM6.of (Below.heap_setCell _ _ _ _ (by show h + 1 ≠ g; omega)) (Below.heap_setCell _ _ _ _ (by show h ≠ g; omega)), ?_, (hBr.trans (hF6.below (by omega) (by omega) (by omega))).setCell (p := ⟨g, rn, none⟩) (by show h ≤ g; omega) _⟩
          rw [heap_set (unhide HG6) rn _]
          simp [List.map_set]
        case measure => simp [intOf]; omega
      · have hm1 : (kd.tmod 2 == 0) = false := by simp [hm]
        clear hm
        generalize hheld : ws.getD rn 0 = held at *
        have HE := hide hheld
        clear hheld
        by_cases he : held = o
        · have e3 : dnOf 3 o held = true := by simp [dnOf, he]
          have e2 : nwOf 3 o n held = n := by simp [nwOf, he]
          have he1 : (held == o) = true := by simp [he]
          have H1 := hide he1
          have H2 := hide e2
          have H3 := hide e3
          clear he he1 e2 e3
          go_wp2_with fail
          go_region_held3 (fun w' => w'.cell? ⟨b, off + k * 4 + 2, none⟩ = some (.int .i64 o) ∧ w'.cell? ⟨b, off + k * 4 + 3, none⟩ = some (.int .i64 n)) (go_keep)
            (first | (go_at_call 13; refine (swap_any (h + 1) h 8 rn ws st kk aa oo vv dd o n _ hMr.drew r8n s0 (by omega)).mono ?_; rintro e w6 ⟨rfl, hM6, hF6⟩; have d2 := (hF6.cell (p := ⟨b, off + k * 4 + 2, none⟩) (by show b < wr.heap.size; omega) kb kc).trans c2; have d3 := (hF6.cell (p := ⟨b, off + k * 4 + 3, none⟩) (by show b < wr.heap.size; omega) kb kc).trans c3; rw [unhide HE, unhide H2, unhide H3] at hM6; rw [unhide HE, unhide H3]))
          have hG6 := (hF6.block g hgl (by omega) (by omega)).trans (unhide HGr)
          have hv6 : w6.cell? ⟨g, rn, none⟩ = some (.int .i64 held) := by
            rw [cell_of hG6, ← unhide HE]
            have : rn < ws.length := by rw [unhide HL]; exact r8n
            simp [this]
          have hf6 := frozen_of hG6 rn
          have HG6 := hide hG6
          have z6 : wr.heap.size ≤ w6.heap.size := hF6.size
          rename_i hS
          clear hG6 c0 c1 c2 c3 hS
          have he1 := unhide H1
          go_wp2
          go_quiet (fail)
          go_wp2
          go_roundw
          case rel =>
            have B6 : Below h w (w6.drewN nq) := below_dn (hBr.drew.trans (hF6.below (by omega) (by omega) (by show h ≤ wr.heap.size; omega))) nq
            refine ⟨k + 1, ws.set rn n, st + 1, _, _, _, _, _, by omega, by omega, by go_num, by omega, by omega, hM6.of (Below.heap_setCell _ _ _ _ (by show h + 1 ≠ g; omega)) (Below.heap_setCell _ _ _ _ (by show h ≠ g; omega)), ?_, B6.setCell (p := ⟨g, rn, none⟩) (by show h ≤ g; omega) _⟩
            rw [heap_set (W := w6.drewN nq) (unhide HG6) rn _]
            simp [List.map_set]
          case measure => simp [intOf]; omega
        · have e3 : dnOf 3 o held = false := by simp [dnOf, he]
          have e2 : nwOf 3 o n held = held := by simp [nwOf, he]
          have he1 : (held == o) = false := by simp [he]
          have e4 : ws.set rn held = ws := by rw [← unhide HE]; exact set_self ws rn
          have H1 := hide he1
          have H2 := hide e2
          have H3 := hide e3
          have H4 := hide e4
          clear he he1 e2 e3 e4
          go_wp2_with fail
          go_region_held3 (fun w' => w'.cell? ⟨b, off + k * 4 + 2, none⟩ = some (.int .i64 o) ∧ w'.cell? ⟨b, off + k * 4 + 3, none⟩ = some (.int .i64 n)) (go_keep)
            (first | (go_at_call 13; refine (swap_any (h + 1) h 8 rn ws st kk aa oo vv dd o n _ hMr.drew r8n s0 (by omega)).mono ?_; rintro e w6 ⟨rfl, hM6, hF6⟩; have d2 := (hF6.cell (p := ⟨b, off + k * 4 + 2, none⟩) (by show b < wr.heap.size; omega) kb kc).trans c2; have d3 := (hF6.cell (p := ⟨b, off + k * 4 + 3, none⟩) (by show b < wr.heap.size; omega) kb kc).trans c3; rw [unhide HE, unhide H2, unhide H3, unhide H4] at hM6; rw [unhide HE, unhide H3]))
          have hG6 := (hF6.block g hgl (by omega) (by omega)).trans (unhide HGr)
          have hv6 : w6.cell? ⟨g, rn, none⟩ = some (.int .i64 held) := by
            rw [cell_of hG6, ← unhide HE]
            have : rn < ws.length := by rw [unhide HL]; exact r8n
            simp [this]
          have HG6 := hide hG6
          have z6 : wr.heap.size ≤ w6.heap.size := hF6.size
          rename_i hS
          clear hG6 c0 c1 c2 c3 hS
          have he1 := unhide H1
          go_wp2
          go_quiet (fail)
          go_wp2
          go_roundw
          case rel =>
            have B6 : Below h w (w6.drewN nq) := below_dn (hBr.drew.trans (hF6.below (by omega) (by omega) (by show h ≤ wr.heap.size; omega))) nq
            exact ⟨k + 1, ws, st + 1, _, _, _, _, _, by omega, by omega, by go_num, by omega, by omega, hM6.of rfl rfl, unhide HG6, B6⟩
          case measure => simp [intOf]; omega
    · have hex : ¬ (k : Int) < (len1 : Int) ∨ ((k : Int) < (len1 : Int) ∧ ¬ (k : Int) < 200) := by omega
      have HGr := hide hGr
      clear hGr hin
      have gl8 := hMr.len
      have HL := hide gl8
      clear gl8
      rcases hex with hx | ⟨hx, hy⟩
      all_goals
        go_wp2_with fail
        refine (words_any _ _ _ _ _ _ _ _ _ _ _ hMr).mono ?_
        rintro e w4 ⟨rfl, hW4, hB4⟩
        have hM4 := hMr.below hB4
        have hG4 := (hB4.block g hgl).trans (unhide HGr)
        have B4 : Below h w w4 := hBr.trans (hB4.mono (by omega))
        have HW4 := hide hW4
        have HG4 := hide hG4
        clear hW4 hG4
        generalize wr.heap.size = y at hsz hgl HW4 ⊢
        go_wp2_with fail
        go_loopw [11] (fun i wq => ∃ (j : Nat) (st kk aa oo vv : Int) (dd : Bool), j ≤ 8 ∧ i = .int .i64 j ∧ 0 ≤ st ∧ st ≤ 200 + j ∧ Mem wq (h + 1) h 8 ws st kk aa oo vv dd ∧
          wq.heap[g]? = some (.cells (ws.map (Value.int .i64)).toArray 50) ∧ wq.heap[y]? = some (.cells (ws.map (Value.int .i64)).toArray 2) ∧ Below h w wq) (fun i _ => 8 - (intOf i).toNat)
        case atStart => exact ⟨0, _, _, _, _, _, _, by omega, rfl, s0, by omega, hM4, unhide HG4, unhide HW4, B4⟩
        case round =>
          obtain ⟨j, st2, k2, a2, o2, v2, d2, hj, rfl, t0, t1, hMq, hGq, hYq, hBq⟩ := hrel
          clear hM4 HG4 HW4 B4 hB4 hMr HGr hBr
          have glq : g < wr.heap.size := (Array.getElem?_eq_some_iff.1 hGq).1
          have ylq : y < wr.heap.size := (Array.getElem?_eq_some_iff.1 hYq).1
          by_cases hj8 : j < 8
          · have HGq := hide hGq
            have HYq := hide hYq
            clear hGq hYq
            have j0 : (0 : Int) ≤ (j : Int) := by omega
            have j8 : (j : Int) < 8 := by omega
            go_wp2_with fail
            refine (load_yes (h + 1) h 8 j ws st2 k2 a2 o2 v2 d2 _ hMq hj8 t0 (by omega)).mono ?_
            rintro e w5 ⟨rfl, hM5, hF5⟩
            have hG5 := (hF5.block g glq (by omega) (by omega)).trans (unhide HGq)
            have hY5 := (hF5.block y ylq (by omega) (by omega)).trans (unhide HYq)
            have hlj : j < ws.length := by rw [unhide HL]; exact hj8
            have x1 : w5.cell? ⟨g, j, none⟩ = some (.int .i64 (ws.getD j 0)) := by rw [cell_of hG5]; simp [hlj]
            have x2 : w5.cell? ⟨y, j, none⟩ = some (.int .i64 (ws.getD j 0)) := by rw [cell_of hY5]; simp [hlj]
            have HG5 := hide hG5
            have HY5 := hide hY5
            have z5 := hF5.size
            clear hG5 hY5 hlj
            generalize ws.getD j 0 = held at *
            go_wp2_with fail
            go_quiet (fail)
            go_wp2
            go_roundw
            case rel =>
              have hs := hBq.size
              exact ⟨j + 1, st2 + 1, _, _, _, _, _, by omega, by go_num, by omega, by omega, hM5.of rfl rfl, unhide HG5, unhide HY5, below_dn (hBq.trans (hF5.below (by omega) (by omega) (by omega))) nq⟩
            case measure => simp [intOf]; omega
          · clear hGq hYq
            go_wp2_with fail
            refine (known_true _).mono ?_
            rintro e w6 ⟨rfl, hB6⟩
            go_wp2
            go_ret
            have hs := hBq.size
            rw [unhide Hh]
            exact ⟨rfl, hBq.trans (hB6.mono (by omega))⟩

set_option maxRecDepth 100000 in
theorem lifted (os : Os) (started : os.Started) (H : Type) (enc : TypeId × Value → H) :
    ReturnsInHanded {} Try.checked os 5 .any (Rows.cellWordsSpec.pre6 enc Try.prog Try.f5 Rows.cellWordsRow.domain false) (Rows.cellWordsSpec.post enc Try.prog Try.f5 false true false false) := by
  refine returnsInHanded_of_change (C := Try.checked) own started (by kernel_rfl) Try.func5
    (ChangeSpec.witness6 (enc := enc) (C := Try.checked) false ⟨#[], #[.slice none 0 0], []⟩ 8 (by kernel_rfl) (by kernel_rfl) (by kernel_rfl) (by kernel_rfl)) ?_
  intro W base args ds gs before hval0 hW hcnd _
  have hval : ∀ (j : Nat) t v, Try.f5.params[j]? = some t → args[j]? = some v → Value.okWide Try.prog W .any base t v := hval0
  have hW' := hW
  obtain ⟨p, q, hA0, hV, rfl, hfz, hnd⟩ := hW
  have hA : DataW.TrodAll enc Try.prog W 0 (fun _ => true) true Try.f5.params.toList args.toList ds p := hA0
  rw [Try.params5] at hA hval
  obtain ⟨v0, vs0, d0, ds0, p0, q0, hargs, rfl, rfl, h0, r0⟩ := trodAll_cons hA
  obtain ⟨rfl, rfl, rfl⟩ := trodAll_nil r0
  obtain rfl : args = #[v0] := by cases args; simp_all
  obtain ⟨rfl, rfl⟩ := trodVars_none hV
  obtain ⟨a1, len1, cap1, rfl⟩ := okWide_slice Try.underlying38 (hval 0 38 v0 rfl rfl)
  have k0 := h0
  have lt0 : ∀ x ∈ p0, x.block < W.heap.size := by obtain ⟨m, hm⟩ := k0; exact DataW.trod_lt m _ _ _ hm
  have w1 : Asks W a1 len1 := by
    obtain ⟨fuel, hf⟩ := h0
    exact asks_of (by simpa [Value.cells] using hf)
  clear hA0 hval0
  refine (walk a1 len1 cap1 W w1).mono fun e W' ⟨he, bel⟩ => ?_
  subst he
  exact ⟨_, rfl, _, _, _, [], _, [], hW', trodAll_mk1 (shut_bool Try.underlying4 _), (trodAll_cons_mk (Below.trod laidOut (by kernel_rfl) (of_decide_eq_true (by kernel_rfl)) k0 bel lt0) trodAll_mk0), rfl, bel.frame _, fun h => by cases h⟩

theorem over : Rows.cellWordsRow.holds Try.pinned (OpenSpec.ofChange Rows.cellWordsSpec) :=
  OpenClaim.holds_of_wide 5 Try.f5 rfl rfl rfl rfl rfl rfl rfl ⟨rfl, rfl, rfl, rfl, rfl⟩ rfl rfl rfl rfl rfl (by kernel_rfl) Try.func5 (by kernel_rfl)
    (of_decide_eq_true (by kernel_rfl)) (by unfold Func.isWrapper; first | (rw [if_pos (by decide +kernel)]; kernel_rfl) | (rw [if_neg (by decide +kernel)]; exact ⟨rfl, rfl⟩))
    (fun os started H enc _ => lifted os started H enc)

end Go.Proofs.Ytfcklnfbjdbbcaa.cellWords

namespace Go.Proofs.Ytfcklnfbjdbbcaa
/-- CellWords answers true. -/
theorem cellWords_proved : Rows.CellWordsSaid := cellWords.over
#print axioms cellWords_proved
end Go.Proofs.Ytfcklnfbjdbbcaa
