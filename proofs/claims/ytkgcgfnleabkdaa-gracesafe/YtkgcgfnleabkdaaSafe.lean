/-
  GraceSafe answers true: nothing is told while a reader that was inside is inside since; each is told once; when all have left, all are told. It holds for every list of calls.
-/
import Derived.Test.YtkgcgfnleabkdaaSafeB
import Derived.ProofKit
import Derived.OpenShut
import Derived.ShutString
import Derived.ChangeOld
import Derived.Below
namespace Go.Proofs.Ytkgcgfnleabkdaa.graceSafe
open Go.ChangeShapes Go.WideShapes Go.ChangeAt Go.RowKit
open Go.ChangeMaps (open_string shut_string)
set_option linter.unusedVariables false
attribute [local go_sem ↓] Go.wp_at_zero Go.wp_at_succ

theorem own : ownKnob Try.prog.godebug = none := by kernel_rfl
theorem laidOut : laidOutB Try.prog = true := by kernel_rfl

abbrev zero4 : Obj := .cells #[.int .i64 0, .int .i64 0, .int .i64 0, .int .i64 0] 46

set_option maxRecDepth 100000 in
set_option maxHeartbeats 4000000 in
theorem walk (a1 : Option Addr) (len1 cap1 : Nat) (w : World) (hp : Asks w a1 len1) :
    Calls Try.prog 5 #[.slice a1 len1 cap1] w fun e w' => e = .returned (.bool true) ∧ Below w.heap.size w w' := by
  have hml := hp.1
  unfold maxLen at hml
  have HP := hide hp
  clear hp
  go_enter Try.func5, Try.ntmps5
  go_wp2_with fail
  refine (new_good 4 (by omega) (by omega) w).mono ?_
  rintro e w1 ⟨rfl, G1, hB1⟩
  obtain ⟨V, hV, hsz, g5, g6, hBV⟩ := two0 w1 zero4 zero4
  have hp1 : w.heap.size + 1 < w1.heap.size := G1.lt.1
  generalize hh : w.heap.size = h at *
  have HH := hide hh
  clear hh
  go_wp2_with fail
  generalize hpp : w1.heap.size = p at *
  have S0 : SS h p w V [0, 0, 0, 0] [0, 0, 0, 0] [0, 0, 0, 0] [] [] (.slice none 0 0) :=
    ⟨G1.below (by rw [hpp]; exact hBV), g5, g6, World.ownsRow_nil _ _ _ _, hB1.trans (hBV.mono (by omega)), hp1⟩
  have HS0 := hide S0
  clear S0 G1 hB1 g5 g6 hBV hsz hpp hp1 hV
  go_loopw [7, 8, 9] (fun v7 tl i wr => ∃ (k t : Nat) (ss sn wh : List Int) (ws : List Wt), k ≤ 120 ∧ i = .int .i64 k ∧ tl = .int .i64 t ∧ t + ws.length = wh.length ∧ wh.length ≤ k ∧ ws.length ≤ 16 ∧ Sv (k : Int) ss sn wh ws ∧ SS h p w wr ss ss sn wh ws v7) (fun _ _ i _ => 120 - (intOf i).toNat)
  case atStart => exact ⟨0, 0, _, _, [], [], Nat.zero_le _, rfl, rfl, rfl, Nat.le_refl _, Nat.zero_le _, Sv.start, unhide HS0⟩
  case round =>
    obtain ⟨k, t, ss, sn, wh, ws, hk, rfl, rfl, htw, hwk, hws, hv, S⟩ := hrel
    clear HS0
    obtain ⟨a7, c7, rfl⟩ := own_form S.o7
    by_cases hgo : k < len1 ∧ k < 120
    · obtain ⟨hkl, hk1⟩ := hgo
      have j1 : (k : Int) < (len1 : Int) := by omega
      have j0 : (0 : Int) ≤ (k : Int) := by omega
      have j2 : (k : Int) < 120 := by omega
      obtain ⟨ob, off, kd, rr, dd, rfl, c0, c1, c2⟩ := (unhide HP).at hkl (by rw [unhide HH]; exact S.be)
      have HV := hide hv
      have HS := hide S
      clear hv S c2
      go_wp2_with fail
      refine (within_any rr 3 wr (by omega) (by omega)).mono ?_
      rintro e wr' ⟨⟨r, hr, rfl⟩, rfl⟩
      have hr4 : r < 4 := by omega
      obtain ⟨s, hs⟩ : ∃ s, ss[r]? = some s := ⟨_, List.getElem?_eq_getElem (by rw [(unhide HV).ls]; exact hr4)⟩
      have hsb := (unhide HV).nn r s hs
      have r1 : (r : Int) < 4 := by omega
      have r0 : (0 : Int) ≤ (r : Int) := by omega
      by_cases k1 : kd = 1
      · subst k1
        obtain ⟨u, hu⟩ : ∃ u, sn[r]? = some u := ⟨_, List.getElem?_eq_getElem (by rw [(unhide HV).ln]; exact hr4)⟩
        have HE := hide (enter_yes h (h + 1) h 4 r s ss ws wr' (unhide HS).gr hs (by omega) (by omega))
        by_cases hs0 : s = 0
        · subst hs0
          have HV2 := hide ((unhide HV).enter0 hs (by omega))
          have HU := hide hu
          have HI := hide hs
          clear hu hs
          go_wp2_with fail
          refine (unhide HE).mono ?_
          rintro e w2 ⟨rfl, G2, F2⟩
          have S2 := (unhide HS).fr G2 F2
          have d5 := S2.inAt (unhide HI)
          have d6 := S2.snAt (unhide HU)
          obtain ⟨f5, f6⟩ := S2.fz
          have HS4 := hide ((S2.setSn (k := r) (x := (k : Int))).set (k := r) (x := 0 + 1))
          clear S2 G2 F2 HE c0 c1
          go_wp2_with fail
          go_roundw
          case rel => exact ⟨k + 1, t, _, _, wh, ws, by omega, by go_num, rfl, htw, by omega, hws, unhide HV2, unhide HS4⟩
          case measure => simp [intOf]; omega
        · have HV2 := hide ((unhide HV).enter1 hs (by omega))
          have HI := hide hs
          clear hu hs
          go_wp2_with fail
          refine (unhide HE).mono ?_
          rintro e w2 ⟨rfl, G2, F2⟩
          have S2 := (unhide HS).fr G2 F2
          have d5 := S2.inAt (unhide HI)
          obtain ⟨f5, f6⟩ := S2.fz
          have HS4 := hide (S2.set (k := r) (x := s + 1))
          clear S2 G2 F2 HE c0 c1
          go_wp2_with fail
          go_roundw
          case rel => exact ⟨k + 1, t, _, _, wh, ws, by omega, by go_num, rfl, htw, by omega, hws, unhide HV2, unhide HS4⟩
          case measure => simp [intOf]; omega
      · by_cases k2 : kd = 2
        · subst k2
          by_cases hs0 : s = 0
          · subst hs0
            have HL := hide (leave_past h (h + 1) h 4 r ss ws wr' (unhide HS).gr hs)
            have d5 := (unhide HS).inAt hs
            have HV2 := hide ((unhide HV).mono (B' := (k : Int) + 1) (by omega))
            clear hs
            go_wp2_with fail
            refine (unhide HL).mono ?_
            rintro e w2 ⟨rfl, rfl⟩
            go_wp2_with fail
            go_roundw
            case rel => exact ⟨k + 1, t, _, _, wh, ws, by omega, by go_num, rfl, htw, by omega, hws, unhide HV2, unhide HS⟩
            case measure => simp [intOf]; omega
          · by_cases hs1 : s = 1
            · subst hs1
              have HL := hide (leave_out h (h + 1) h 4 r ss ws wr' (unhide HS).gr hws hs)
              have HV2 := hide (((unhide HV).out hs).mono (B' := (k : Int) + 1) (by omega))
              have HI := hide hs
              clear hs
              go_wp2_with fail
              refine (unhide HL).mono ?_
              rintro e w2 ⟨rfl, G2, F2⟩
              have S2 := (unhide HS).fr G2 F2
              have d5 := S2.inAt (unhide HI)
              obtain ⟨f5, f6⟩ := S2.fz
              have HS4 := hide (S2.set (k := r) (x := 0))
              clear S2 G2 F2 HL c0 c1
              go_wp2_with fail
              go_roundw
              case rel => exact ⟨k + 1, t, _, _, wh, _, by omega, by go_num, rfl, by rw [List.length_map]; exact htw, by omega, by rw [List.length_map]; exact hws, unhide HV2, unhide HS4⟩
              case measure => simp [intOf]; omega
            · have HL := hide (leave_deep h (h + 1) h 4 r s ss ws wr' (unhide HS).gr hs (by omega) (by omega))
              have HV2 := hide (((unhide HV).deep hs (by omega)).mono (B' := (k : Int) + 1) (by omega))
              have HI := hide hs
              have sp : 0 < s := by omega
              clear hs
              go_wp2_with fail
              refine (unhide HL).mono ?_
              rintro e w2 ⟨rfl, G2, F2⟩
              have S2 := (unhide HS).fr G2 F2
              have d5 := S2.inAt (unhide HI)
              obtain ⟨f5, f6⟩ := S2.fz
              have HS4 := hide (S2.set (k := r) (x := s - 1))
              clear S2 G2 F2 HL c0 c1
              go_wp2_with fail
              go_roundw
              case rel => exact ⟨k + 1, t, _, _, wh, ws, by omega, by go_num, rfl, htw, by omega, hws, unhide HV2, unhide HS4⟩
              case measure => simp [intOf]; omega
        · by_cases k3 : kd = 3
          · subst k3
            by_cases hfull : ws.length < 16
            · have HD := hide (defer_ok h (h + 1) h 4 (wh.length : Int) ss ws wr' (unhide HS).gr hfull)
              have HV2 := hide ((unhide HV).defer)
              obtain ⟨m, hm⟩ : ∃ m, wh.length = m := ⟨_, rfl⟩
              rw [hm] at HD ⊢
              have HM := hide hm
              have hm120 : m < 120 := by omega
              clear hs hm
              go_wp2_with fail
              refine (unhide HD).mono ?_
              rintro e w2 ⟨rfl, G2, F2⟩
              have S2 := (unhide HS).fr G2 F2
              have own5 := own_keep (W' := w2.alloc (.cells #[.int .i64 (k : Int)] 3)) S2.o7 (fun k cur hc => Below.heap_alloc _ _ _ (lt_of_heap hc))
              rw [unhide HM] at own5
              obtain ⟨i0, hi, hz0, hz1, hz2⟩ := info_parts info3
              have hsz2 : p + 2 ≤ w2.heap.size := lt_of_heap S2.k6
              have HS2 := hide S2
              clear S2 G2 F2 HD c0 c1
              go_wp2_with (first
                | (at_builtin; refine wpList_append_own _ rfl _ _ 31 rfl (p + 2) 3 i0 (.int .i64 0) 1 8 Try.underlying31 hi hz0 hz1 hz2 rfl (by decide) _ _ _ rfl own5 ⟨w2.heap.size, 0, none⟩ 1 1 [.int .i64 (k : Int)] rfl rfl ?c1 ?c2 ?c3 ?c4 ?c5 ?_))
              case c1 => exact cell_one_new _ _ _
              case c2 => intro u hu; simp at hu; subst hu; rfl
              case c3 => unfold maxLen; omega
              case c4 => omega
              case c5 => simp; omega
              intro v' w5 own6 hgr _
              have S5 := SS.app (o' := .cells #[.int .i64 (k : Int)] 3) (unhide HS2) (by rw [unhide HM]; exact hgr) (by rw [unhide HM]; exact own6)
              have HS5 := hide S5
              clear own6 hgr own5 S5
              go_wp2_with fail
              go_roundw
              case rel => exact ⟨k + 1, t, _, _, _, ws ++ [⟨(m : Int), ins ss⟩], by omega, by go_num, rfl, by simp; omega, by simp; omega, by simp; omega, (by have := unhide HV2; rw [unhide HM] at this; exact this), unhide HS5⟩
              case measure => simp [intOf]; omega
            · have HD := hide (defer_full h (h + 1) h 4 (wh.length : Int) ss ws wr' (unhide HS).gr (by omega))
              have HV2 := hide ((unhide HV).mono (B' := (k : Int) + 1) (by omega))
              clear hs
              go_wp2_with fail
              refine (unhide HD).mono ?_
              rintro e w2 ⟨rfl, rfl⟩
              go_wp2_with fail
              go_roundw
              case rel => exact ⟨k + 1, t, _, _, wh, ws, by omega, by go_num, rfl, htw, by omega, hws, unhide HV2, unhide HS⟩
              case measure => simp [intOf]; omega
          · have HQ := hide (poll_all h (h + 1) h 4 ss ws wr' (unhide HS).gr hws)
            have hfr := split_len ws
            have hfl := free_len ws
            clear hs
            go_wp2_with fail
            refine (unhide HQ).mono ?_
            rintro e w2 ⟨v13, rfl, o13, G2, F2⟩
            have S2 := (unhide HS).fr G2 F2
            have R2 := Rd.of_own o13
            obtain ⟨a13, c13, rfl⟩ := own_form o13
            obtain ⟨m, hm⟩ : ∃ m, (free ws).length = m := ⟨_, rfl⟩
            rw [hm] at R2 hfr hfl ⊢
            have hmi : (idsOf (free ws)).length = m := by simp [hm]
            have HR2 := hide R2
            have HS2 := hide S2
            have HMI := hide hmi
            have t0 : (0 : Int) ≤ (t : Int) := by omega
            have t1 : (t : Int) ≤ 120 := by omega
            have m16 : (m : Int) ≤ 16 := by omega
            clear S2 G2 F2 o13 R2 HQ HS hm hmi c0 c1
            go_wp2_with fail
            go_loopw [14] (fun i wx => ∃ j : Nat, j ≤ m ∧ i = .int .i64 j ∧ SS h p w wx ss ss sn wh (held ws) (.slice a7 wh.length c7) ∧ Rd wx (.slice a13 m c13) (idsOf (free ws))) (fun i _ => m - (intOf i).toNat)
            case atStart => exact ⟨0, Nat.zero_le _, rfl, unhide HS2, unhide HR2⟩
            case round =>
              obtain ⟨j, hj, rfl, S, R⟩ := hrel
              clear HS2 HR2
              by_cases hjm : j < m
              · obtain ⟨d, hd⟩ : ∃ d, (idsOf (free ws))[j]? = some d := ⟨_, List.getElem?_eq_getElem (by rw [unhide HMI]; exact hjm)⟩
                obtain ⟨jj, tt, rfl, htt, hq⟩ := (unhide HV).told hd
                have hjw := (List.getElem?_eq_some_iff.1 htt).1
                obtain ⟨ax, cx, ex, hy⟩ := R
                rw [unhide HMI] at ex
                simp only [Value.slice.injEq] at ex
                obtain ⟨ea, -, ec⟩ := ex
                obtain ⟨g, eg, hx⟩ := hy (by intro e0; rw [e0] at hd; simp at hd)
                rw [← ea] at eg
                clear hy ea ec
                subst eg
                have p1 := (hx j _ hd).1
                have i1 : (j : Int) < (m : Int) := by omega
                have i0 : (0 : Int) ≤ (j : Int) := by omega
                have q1 : (0 : Int) ≤ (jj : Int) := by omega
                have q2 : (jj : Int) < (wh.length : Int) := by omega
                have HX := hide hx
                have HD := hide hd
                have HT := hide htt
                have HQ := hide hq
                have HS := hide S
                clear hx hd htt hq S
                go_wp2_with fail
                go_loopw [15] (fun i wy => ∃ q : Nat, q ≤ 4 ∧ i = .int .i64 q ∧ SS h p w wy ss ss sn wh (held ws) (.slice a7 wh.length c7) ∧ ∀ (j : Nat) (x : Int), (idsOf (free ws))[j]? = some x → wy.cell? ⟨g, j, none⟩ = some (.int .i64 x) ∧ g < wy.heap.size) (fun i _ => 4 - (intOf i).toNat)
                case atStart => exact ⟨0, Nat.zero_le _, rfl, unhide HS, unhide HX⟩
                case round =>
                  obtain ⟨q, hq4, rfl, S, hx⟩ := hrel
                  clear p1 HS HX
                  by_cases hqn : q < 4
                  · obtain ⟨s, hs⟩ : ∃ s, ss[q]? = some s := ⟨_, List.getElem?_eq_getElem (by rw [(unhide HV).ls]; exact hqn)⟩
                    obtain ⟨u, hu⟩ : ∃ u, sn[q]? = some u := ⟨_, List.getElem?_eq_getElem (by rw [(unhide HV).ln]; exact hqn)⟩
                    have hsb := (unhide HV).nn q s hs
                    have d5 := S.inAt hs
                    have d6 := S.snAt hu
                    have y1 : (q : Int) < 4 := by omega
                    have y0 : (0 : Int) ≤ (q : Int) := by omega
                    have p1 := (hx j _ (unhide HD)).1
                    have htu := unhide HQ q s u hs hu
                    obtain ⟨g7, cap7, cur7, e7, _, _, _, _, _, hx7⟩ := own_open S.o7 (by omega)
                    simp only [Value.slice.injEq] at e7
                    obtain ⟨rfl, -, rfl⟩ := e7
                    have p7 := hx7 jj (.int .i64 tt) (by simp [ints, unhide HT])
                    have HX := hide hx
                    have HS := hide S
                    clear hx S hs hu hx7
                    by_cases hs0 : s = 0
                    · subst hs0
                      go_wp2_with fail
                      go_quiet (fail)
                      go_wp2_with fail
                      go_roundw
                      case rel => exact ⟨q + 1, by omega, by go_num, (unhide HS).dn _, unhide HX⟩
                      case measure => simp [intOf]; omega
                    · have hs1 : 0 < s := by omega
                      have htu2 := htu hs1
                      have hlt : (u < tt) = False := by simp; omega
                      clear htu
                      go_wp2_with fail
                      go_quiet (fail)
                      go_wp2_with fail
                      go_roundw
                      case rel => exact ⟨q + 1, by omega, by go_num, (unhide HS).dn _, unhide HX⟩
                      case measure => simp [intOf]; omega
                  · obtain rfl : q = 4 := by omega
                    have R3 : Rd wr (.slice (some ⟨g, 0, none⟩) m c13) (idsOf (free ws)) := ⟨some ⟨g, 0, none⟩, c13, by rw [unhide HMI], fun _ => ⟨g, rfl, hx⟩⟩
                    have HR := hide R3
                    have HS := hide S
                    clear hx S R3
                    go_wp2_with fail
                    go_roundw
                    case rel => exact ⟨j + 1, by omega, by go_num, unhide HS, unhide HR⟩
                    case measure => simp [intOf]; omega
              · obtain rfl : j = m := by omega
                have HS := hide S
                have HV2 := hide (((unhide HV).held).mono (B' := (k : Int) + 1) (by omega))
                clear S R
                go_wp2_with fail
                go_roundw
                case rel => exact ⟨k + 1, t + j, _, _, wh, _, by omega, by go_num, by go_num, by omega, by omega, by omega, unhide HV2, unhide HS⟩
                case measure => simp [intOf]; omega
    · have hstop : ((k : Int) < (len1 : Int)) = False ∨ ((k : Int) < (len1 : Int)) ∧ ((k : Int) < 120) = False := by
        by_cases hl : k < len1
        · right; exact ⟨by omega, by simp; omega⟩
        · left; simp; omega
      have HV := hide hv
      have HS := hide S
      clear hv S hgo
      obtain ⟨M, hM0⟩ : ∃ M, ws.length = M := ⟨_, rfl⟩
      rw [hM0] at htw hws
      have HM := hide hM0
      clear hM0
      rcases hstop with hst | ⟨hst1, hst⟩
      · go_wp2_with fail
        go_loopw [16] (fun i wx => ∃ (q : Nat) (ss : List Int) (ws : List Wt), q ≤ 4 ∧ i = .int .i64 q ∧ ws.length = M ∧ (∀ (q' : Nat) (s : Int), q' < q → ss[q']? = some s → s = 0) ∧ Sv (k : Int) ss sn wh ws ∧ SS h p w wx ss ss sn wh ws (.slice a7 wh.length c7)) (fun i _ => 4 - (intOf i).toNat)
        case atStart => exact ⟨0, ss, ws, Nat.zero_le _, rfl, unhide HM, fun _ _ h => by omega, unhide HV, unhide HS⟩
        case round =>
          obtain ⟨q, ss, ws, hq4, rfl, hM, hz, hv, S⟩ := hrel
          clear HM HV HS
          by_cases hqn : q < 4
          · have y1 : (q : Int) < 4 := by omega
            have y0 : (0 : Int) ≤ (q : Int) := by omega
            have HZ := hide hz
            have HV := hide hv
            have HS := hide S
            clear hz hv S
            go_wp2_with fail
            go_loopw [] (fun wx => ∃ (ss : List Int) (ws : List Wt), ws.length = M ∧ (∀ (q' : Nat) (s : Int), q' < q → ss[q']? = some s → s = 0) ∧ Sv (k : Int) ss sn wh ws ∧ SS h p w wx ss ss sn wh ws (.slice a7 wh.length c7)) (fun wx => (intOf ((wx.cell? ⟨p, q, none⟩).getD undef)).toNat)
            case atStart => exact ⟨ss, ws, hM, unhide HZ, unhide HV, unhide HS⟩
            case round =>
              obtain ⟨ss, ws, hM, hz, hv, S⟩ := hrel
              clear HZ HV HS
              obtain ⟨s, hs⟩ : ∃ s, ss[q]? = some s := ⟨_, List.getElem?_eq_getElem (by rw [hv.ls]; exact hqn)⟩
              have hsb := hv.nn q s hs
              have d5 := S.inAt hs
              have keepz : ∀ x, ∀ (q' : Nat) (s : Int), q' < q → (ss.set q x)[q']? = some s → s = 0 := by
                intro x q' s' h1 h2
                rw [List.getElem?_set_ne (by omega)] at h2
                exact hz q' s' h1 h2
              by_cases hs0 : s = 0
              · subst hs0
                have hz2 : ∀ (q' : Nat) (s : Int), q' < q + 1 → ss[q']? = some s → s = 0 := by
                  intro q' s' h1 h2
                  by_cases e : q' = q
                  · subst e; rw [hs] at h2; simp at h2; exact h2.symm
                  · exact hz q' s' (by omega) h2
                have HZ := hide hz2
                have HV := hide hv
                have HS := hide S
                clear hz hz2 hv S keepz hs
                go_wp2_with fail
                go_roundw
                case rel => exact ⟨q + 1, ss, ws, by omega, by go_num, hM, unhide HZ, unhide HV, unhide HS⟩
                case measure => simp [intOf]; omega
              · by_cases hs1 : s = 1
                · subst hs1
                  have HL := hide (leave_out h (h + 1) h 4 q ss ws wr S.gr (by omega) hs)
                  have HV2 := hide (hv.out hs)
                  have HI := hide hs
                  have HZ := hide (keepz 0)
                  have HS := hide S
                  clear hz hv S keepz hs
                  go_wp2_with fail
                  refine (unhide HL).mono ?_
                  rintro e w2 ⟨rfl, G2, F2⟩
                  have S2 := (unhide HS).fr G2 F2
                  have d6 := S2.inAt (unhide HI)
                  obtain ⟨f5, f6⟩ := S2.fz
                  have S4 := S2.set (k := q) (x := 0)
                  have d7 := S4.inAt (get_set (unhide HI) 0)
                  have HS4 := hide S4
                  have D5 := hide d5
                  have D7 := hide d7
                  clear S2 G2 F2 HL S4 d5 d7
                  go_wp2_with fail
                  go_roundw
                  case rel => exact ⟨_, _, by rw [List.length_map]; exact hM, unhide HZ, unhide HV2, unhide HS4⟩
                  case measure => rw [unhide D5, unhide D7]; simp [intOf]
                · have HL := hide (leave_deep h (h + 1) h 4 q s ss ws wr S.gr hs (by omega) (by omega))
                  have HV2 := hide (hv.deep hs (by omega))
                  have HI := hide hs
                  have HZ := hide (keepz (s - 1))
                  have HS := hide S
                  have sp : 0 < s := by omega
                  clear hz hv S keepz hs
                  go_wp2_with fail
                  refine (unhide HL).mono ?_
                  rintro e w2 ⟨rfl, G2, F2⟩
                  have S2 := (unhide HS).fr G2 F2
                  have d6 := S2.inAt (unhide HI)
                  obtain ⟨f5, f6⟩ := S2.fz
                  have S4 := S2.set (k := q) (x := s - 1)
                  have d7 := S4.inAt (get_set (unhide HI) (s - 1))
                  have HS4 := hide S4
                  have D5 := hide d5
                  have D7 := hide d7
                  clear S2 G2 F2 HL S4 d5 d7
                  go_wp2_with fail
                  go_roundw
                  case rel => exact ⟨_, _, hM, unhide HZ, unhide HV2, unhide HS4⟩
                  case measure => rw [unhide D5, unhide D7]; simp [intOf]; omega
          · obtain rfl : q = 4 := by omega
            obtain ⟨hfa, hha⟩ := hv.all (fun q s hs => hz q s (by have := (List.getElem?_eq_some_iff.1 hs).1; rw [hv.ls] at this; exact this) hs)
            have HQ := hide (poll_all h (h + 1) h 4 ss ws wr S.gr (by omega))
            have HS := hide S
            clear hz hv S
            go_wp2_with fail
            refine (unhide HQ).mono ?_
            rintro e w2 ⟨v2, rfl, o2, G2, F2⟩
            rw [hfa, hM] at o2
            rw [hha] at G2
            have B2 := (unhide HS).be.trans F2.below
            obtain ⟨a2, c2, rfl⟩ := own_form o2
            have HW2 := hide (waits_all h (h + 1) h 4 ss [] w2 G2 (by simp))
            have HG2 := hide G2
            have HB2 := hide B2
            have t0 : (0 : Int) ≤ (t : Int) := by omega
            have t1 : (t : Int) ≤ 120 := by omega
            have m16 : (M : Int) ≤ 16 := by omega
            have esum : (t : Int) + (M : Int) = (wh.length : Int) := by omega
            clear o2 G2 F2 B2 HQ HS hfa hha
            go_wp2_with fail
            refine (unhide HW2).mono ?_
            rintro e w3 ⟨v3, rfl, o3, B3⟩
            replace o3 : w3.ownsRow w2.heap.size 2 1 v3 0 [] := o3
            obtain ⟨a3, c3, rfl⟩ := own_form o3
            have G3 := (unhide HG2).below B3
            have HB3 := hide ((unhide HB2).trans (B3.mono (unhide HG2).base_le))
            have HQ3 := hide (poll_all h (h + 1) h 4 ss [] w3 G3 (by simp))
            clear o3 G3 B3 HW2 HG2 HB2
            go_wp2_with fail
            refine (unhide HQ3).mono ?_
            rintro e w4 ⟨v4, rfl, o4, G4, F4⟩
            replace o4 : w4.ownsRow w3.heap.size 2 1 v4 0 [] := o4
            obtain ⟨a4, c4, rfl⟩ := own_form o4
            have HB4 := hide ((unhide HB3).trans F4.below)
            have hb4 := G4.base_le
            clear o4 G4 F4 HQ3 HB3
            go_wp2_with fail
            refine (known_true w4).mono ?_
            rintro e w5 ⟨rfl, B5⟩
            have HB5 := hide ((unhide HB4).trans (B5.mono hb4))
            clear B5
            go_wp2_with fail
            go_ret
            rw [unhide HH]
            exact ⟨by simp, unhide HB5⟩
      · go_wp2_with fail
        go_loopw [16] (fun i wx => ∃ (q : Nat) (ss : List Int) (ws : List Wt), q ≤ 4 ∧ i = .int .i64 q ∧ ws.length = M ∧ (∀ (q' : Nat) (s : Int), q' < q → ss[q']? = some s → s = 0) ∧ Sv (k : Int) ss sn wh ws ∧ SS h p w wx ss ss sn wh ws (.slice a7 wh.length c7)) (fun i _ => 4 - (intOf i).toNat)
        case atStart => exact ⟨0, ss, ws, Nat.zero_le _, rfl, unhide HM, fun _ _ h => by omega, unhide HV, unhide HS⟩
        case round =>
          obtain ⟨q, ss, ws, hq4, rfl, hM, hz, hv, S⟩ := hrel
          clear HM HV HS
          by_cases hqn : q < 4
          · have y1 : (q : Int) < 4 := by omega
            have y0 : (0 : Int) ≤ (q : Int) := by omega
            have HZ := hide hz
            have HV := hide hv
            have HS := hide S
            clear hz hv S
            go_wp2_with fail
            go_loopw [] (fun wx => ∃ (ss : List Int) (ws : List Wt), ws.length = M ∧ (∀ (q' : Nat) (s : Int), q' < q → ss[q']? = some s → s = 0) ∧ Sv (k : Int) ss sn wh ws ∧ SS h p w wx ss ss sn wh ws (.slice a7 wh.length c7)) (fun wx => (intOf ((wx.cell? ⟨p, q, none⟩).getD undef)).toNat)
            case atStart => exact ⟨ss, ws, hM, unhide HZ, unhide HV, unhide HS⟩
            case round =>
              obtain ⟨ss, ws, hM, hz, hv, S⟩ := hrel
              clear HZ HV HS
              obtain ⟨s, hs⟩ : ∃ s, ss[q]? = some s := ⟨_, List.getElem?_eq_getElem (by rw [hv.ls]; exact hqn)⟩
              have hsb := hv.nn q s hs
              have d5 := S.inAt hs
              have keepz : ∀ x, ∀ (q' : Nat) (s : Int), q' < q → (ss.set q x)[q']? = some s → s = 0 := by
                intro x q' s' h1 h2
                rw [List.getElem?_set_ne (by omega)] at h2
                exact hz q' s' h1 h2
              by_cases hs0 : s = 0
              · subst hs0
                have hz2 : ∀ (q' : Nat) (s : Int), q' < q + 1 → ss[q']? = some s → s = 0 := by
                  intro q' s' h1 h2
                  by_cases e : q' = q
                  · subst e; rw [hs] at h2; simp at h2; exact h2.symm
                  · exact hz q' s' (by omega) h2
                have HZ := hide hz2
                have HV := hide hv
                have HS := hide S
                clear hz hz2 hv S keepz hs
                go_wp2_with fail
                go_roundw
                case rel => exact ⟨q + 1, ss, ws, by omega, by go_num, hM, unhide HZ, unhide HV, unhide HS⟩
                case measure => simp [intOf]; omega
              · by_cases hs1 : s = 1
                · subst hs1
                  have HL := hide (leave_out h (h + 1) h 4 q ss ws wr S.gr (by omega) hs)
                  have HV2 := hide (hv.out hs)
                  have HI := hide hs
                  have HZ := hide (keepz 0)
                  have HS := hide S
                  clear hz hv S keepz hs
                  go_wp2_with fail
                  refine (unhide HL).mono ?_
                  rintro e w2 ⟨rfl, G2, F2⟩
                  have S2 := (unhide HS).fr G2 F2
                  have d6 := S2.inAt (unhide HI)
                  obtain ⟨f5, f6⟩ := S2.fz
                  have S4 := S2.set (k := q) (x := 0)
                  have d7 := S4.inAt (get_set (unhide HI) 0)
                  have HS4 := hide S4
                  have D5 := hide d5
                  have D7 := hide d7
                  clear S2 G2 F2 HL S4 d5 d7
                  go_wp2_with fail
                  go_roundw
                  case rel => exact ⟨_, _, by rw [List.length_map]; exact hM, unhide HZ, unhide HV2, unhide HS4⟩
                  case measure => rw [unhide D5, unhide D7]; simp [intOf]
                · have HL := hide (leave_deep h (h + 1) h 4 q s ss ws wr S.gr hs (by omega) (by omega))
                  have HV2 := hide (hv.deep hs (by omega))
                  have HI := hide hs
                  have HZ := hide (keepz (s - 1))
                  have HS := hide S
                  have sp : 0 < s := by omega
                  clear hz hv S keepz hs
                  go_wp2_with fail
                  refine (unhide HL).mono ?_
                  rintro e w2 ⟨rfl, G2, F2⟩
                  have S2 := (unhide HS).fr G2 F2
                  have d6 := S2.inAt (unhide HI)
                  obtain ⟨f5, f6⟩ := S2.fz
                  have S4 := S2.set (k := q) (x := s - 1)
                  have d7 := S4.inAt (get_set (unhide HI) (s - 1))
                  have HS4 := hide S4
                  have D5 := hide d5
                  have D7 := hide d7
                  clear S2 G2 F2 HL S4 d5 d7
                  go_wp2_with fail
                  go_roundw
                  case rel => exact ⟨_, _, hM, unhide HZ, unhide HV2, unhide HS4⟩
                  case measure => rw [unhide D5, unhide D7]; simp [intOf]; omega
          · obtain rfl : q = 4 := by omega
            obtain ⟨hfa, hha⟩ := hv.all (fun q s hs => hz q s (by have := (List.getElem?_eq_some_iff.1 hs).1; rw [hv.ls] at this; exact this) hs)
            have HQ := hide (poll_all h (h + 1) h 4 ss ws wr S.gr (by omega))
            have HS := hide S
            clear hz hv S
            go_wp2_with fail
            refine (unhide HQ).mono ?_
            rintro e w2 ⟨v2, rfl, o2, G2, F2⟩
            rw [hfa, hM] at o2
            rw [hha] at G2
            have B2 := (unhide HS).be.trans F2.below
            obtain ⟨a2, c2, rfl⟩ := own_form o2
            have HW2 := hide (waits_all h (h + 1) h 4 ss [] w2 G2 (by simp))
            have HG2 := hide G2
            have HB2 := hide B2
            have t0 : (0 : Int) ≤ (t : Int) := by omega
            have t1 : (t : Int) ≤ 120 := by omega
            have m16 : (M : Int) ≤ 16 := by omega
            have esum : (t : Int) + (M : Int) = (wh.length : Int) := by omega
            clear o2 G2 F2 B2 HQ HS hfa hha
            go_wp2_with fail
            refine (unhide HW2).mono ?_
            rintro e w3 ⟨v3, rfl, o3, B3⟩
            replace o3 : w3.ownsRow w2.heap.size 2 1 v3 0 [] := o3
            obtain ⟨a3, c3, rfl⟩ := own_form o3
            have G3 := (unhide HG2).below B3
            have HB3 := hide ((unhide HB2).trans (B3.mono (unhide HG2).base_le))
            have HQ3 := hide (poll_all h (h + 1) h 4 ss [] w3 G3 (by simp))
            clear o3 G3 B3 HW2 HG2 HB2
            go_wp2_with fail
            refine (unhide HQ3).mono ?_
            rintro e w4 ⟨v4, rfl, o4, G4, F4⟩
            replace o4 : w4.ownsRow w3.heap.size 2 1 v4 0 [] := o4
            obtain ⟨a4, c4, rfl⟩ := own_form o4
            have HB4 := hide ((unhide HB3).trans F4.below)
            have hb4 := G4.base_le
            clear o4 G4 F4 HQ3 HB3
            go_wp2_with fail
            refine (known_true w4).mono ?_
            rintro e w5 ⟨rfl, B5⟩
            have HB5 := hide ((unhide HB4).trans (B5.mono hb4))
            clear B5
            go_wp2_with fail
            go_ret
            rw [unhide HH]
            exact ⟨by simp, unhide HB5⟩

set_option maxRecDepth 100000 in
theorem lifted (os : Os) (started : os.Started) (H : Type) (enc : TypeId × Value → H) :
    ReturnsInHanded {} Try.checked os 5 .any (Rows.graceSafeSpec.pre6 enc Try.prog Try.f5 Rows.graceSafeRow.domain false) (Rows.graceSafeSpec.post enc Try.prog Try.f5 false true false false) := by
  refine returnsInHanded_of_change (C := Try.checked) own started (by kernel_rfl) Try.func5
    (ChangeSpec.witness6 (enc := enc) (C := Try.checked) false ⟨#[], #[.slice none 0 0], []⟩ 8 (by kernel_rfl) (by kernel_rfl) (by kernel_rfl) (by kernel_rfl)) ?_
  intro W base args ds gs before hval0 hW hcnd _
  have hval : ∀ (j : Nat) t v, Try.f5.params[j]? = some t → args[j]? = some v → Value.okWide Try.prog W .any base t v := hval0
  have hW' := hW
  obtain ⟨p, q, hA0, hV, rfl, hfz, hnd⟩ := hW
  have hA : DataW.TrodAll enc Try.prog W 0 (fun _ => true) true Try.f5.params.toList args.toList ds p := hA0
  rw [Try.params5] at hA hval
  obtain ⟨v0, vs0, d0, ds0, p0, q0, hargs, rfl, rfl, h0, r0⟩ := trodAll_cons hA
  obtain ⟨rfl, rfl, rfl⟩ := trodAll_nil r0
  obtain rfl : args = #[v0] := by cases args; simp_all
  obtain ⟨rfl, rfl⟩ := trodVars_none hV
  obtain ⟨a0, len0, cap0, rfl⟩ := okWide_slice Try.underlying37 (hval 0 37 v0 rfl rfl)
  have k0 := h0
  have lt0 : ∀ x ∈ p0, x.block < W.heap.size := by obtain ⟨m, hm⟩ := k0; exact DataW.trod_lt m _ _ _ hm
  have w0 : Asks W a0 len0 := by
    obtain ⟨fuel, hf⟩ := h0
    exact asks_of (by simpa [Value.cells] using hf)
  clear hA0 hval0
  refine (walk a0 len0 cap0 W w0).mono fun e W' ⟨he, bel⟩ => ?_
  subst he
  exact ⟨_, rfl, _, _, _, [], _, [], hW', trodAll_mk1 (shut_bool Try.underlying4 _), (trodAll_cons_mk (Below.trod laidOut (by kernel_rfl) (of_decide_eq_true (by kernel_rfl)) k0 bel lt0) trodAll_mk0), rfl, bel.frame _, fun h => by cases h⟩

theorem over : Rows.graceSafeRow.holds Try.pinned (OpenSpec.ofChange Rows.graceSafeSpec) :=
  OpenClaim.holds_of_wide 5 Try.f5 rfl rfl rfl rfl rfl rfl rfl ⟨rfl, rfl, rfl, rfl, rfl⟩ rfl rfl rfl rfl rfl (by kernel_rfl) Try.func5 (by kernel_rfl)
    (of_decide_eq_true (by kernel_rfl)) (by unfold Func.isWrapper; first | (rw [if_pos (by decide +kernel)]; kernel_rfl) | (rw [if_neg (by decide +kernel)]; exact ⟨rfl, rfl⟩))
    (fun os started H enc _ => lifted os started H enc)

end Go.Proofs.Ytkgcgfnleabkdaa.graceSafe

namespace Go.Proofs.Ytkgcgfnleabkdaa
/-- GraceSafe answers true. -/
theorem graceSafe_proved : Rows.GraceSafeSaid := graceSafe.over
#print axioms graceSafe_proved
end Go.Proofs.Ytkgcgfnleabkdaa
