/-
  The walk of MountPlays.
-/
import Derived.Test.YthmpplcaomgdoaaMPlB
import Derived.Deep.CutRange
import Derived.Deep.CutBlock
namespace Go.Proofs.Ythmpplcaomgdoaa.Mt
open Go.RowKit
attribute [local go_sem ↓] Go.wp_at_zero Go.wp_at_succ

set_option maxRecDepth 100000 in
set_option maxHeartbeats 8000000 in
theorem plays_walk (root : Int) (pa : Option Addr) (len cap : Nat) (w : World) (ha : AsksAt w pa len) :
    Calls Try.prog 4 #[I root, .slice pa len cap] w fun e w' => e = .returned (.bool true) ∧ Below w.heap.size w w' := by
  have hlen : (len : Int) ≤ 9223372036854775807 := by have := ha.1; omega
  have HA := hide ha
  clear ha
  go_enter Try.func4, Try.ntmps4
  go_wp2_with fail
  refine (new_Q root _).mono ?_
  rintro e w1 ⟨rfl, h1, b1⟩
  have HT := hide h1
  have HB := hide b1
  clear h1 b1
  go_wp2_with fail
  refine (rnew_any root _).mono ?_
  rintro e w2 ⟨rfl, h2, b2⟩
  have HS := hide (⟨(unhide HT).below b2, h2, RT.new root, (unhide HB).trans (b2.mono (by have := (unhide HT).ls.lt; omega)), (unhide HT).ls.lt⟩ : PL 0 w.heap.size w1.heap.size w w2 ⟨root, 0, []⟩ _)
  clear h2 b2 HT HB
  generalize hh : w.heap.size = h at *
  generalize hR : w1.heap.size = R at *
  go_upto_block 0 with fail
  go_cut [] from 7 to 169 (fun wc => ∃ t rs, PL 60 h R w wc t rs)
  case first =>
    go_wp2_with fail
    go_loopw [7] (fun v wr => ∃ (k : Nat) (t : T) (rs : List Rm), v = I k ∧ k ≤ 60 ∧ k ≤ len ∧ PL k h R w wr t rs) (fun v _ => 60 - (intOf v).toNat)
    case atStart => exact ⟨0, _, _, rfl, by omega, by omega, unhide HS⟩
    case round =>
      clear HS
      obtain ⟨k, t, rs, rfl, hk, hkl, S⟩ := hrel
      by_cases hc : k < len ∧ k < 60
      · obtain ⟨b, off, kd, m, nd, am, an, rfl, hb, A⟩ := (unhide HA).2 k hc.1
        rw [hh] at hb
        have j1 : (k : Int) < (len : Int) := by omega
        have j2 : (k : Int) < 60 := by omega
        have j0 : (0 : Int) ≤ (k : Int) := by omega
        have A1 := A.below hb S.be
        have c0 := A1.c0
        have c1 := A1.c1
        have c2 := A1.c2
        have c3 := A1.c3
        have c4 := A1.c4
        have HS := hide S
        clear A A1 S hc
        go_upto_if 43 with fail
        have hV := putAll (w := wr) (.cells #[I kd, I m, I nd, I am, I an] 42) _ rfl
        have HSV := hide ((unhide HS).alloc (.cells #[I kd, I m, I nd, I am, I an] 42))
        clear HS c0 c1 c2 c3 c4
        have HV := hide hV
        clear hV
        go_cut [9, 10, 11, 12] from 44 to 81 (fun _ _ _ _ wc => ∃ t' rs', PL (k + 1) h R w wc t' rs' ∧ wc.heap[wr.heap.size]? = some (.cells #[I kd, I m, I nd, I am, I an] 42))
        case first =>
          by_cases k1 : kd = 1
          · subst k1
            go_wp2_with fail
            refine (bind_1 (unhide HSV) (by omega) _ _ _ (unhide HV)).mono ?_
            rintro e w3 ⟨rfl, HS1, hy1⟩
            obtain ⟨c0, c1, c2, c3, c4⟩ := cells5 hy1
            have HY1 := hide hy1
            clear hy1
            generalize hx1 : t.bindN am an = x1
            generalize hx2 : bindE t.es am an = x2
            have HX1 := hide hx1
            have HX2 := hide hx2
            clear hx1 hx2
            go_wp2_with fail
            refine (bind_2 (unhide HSV) (by omega) _ _ _ (unhide HS1).1 (unhide HS1).2.1 (unhide HS1).2.2 rfl (unhide HY1)).mono ?_
            rintro e w4 ⟨rfl, HS2, hy2⟩
            rw [unhide HX1, unhide HX2]
            have HY2 := hide hy2
            clear hy2 HS1 HY1 HSV HV c0 c1 c2 c3 c4
            go_wp2_with fail
            go_meet
            case rel =>
              obtain ⟨rs', S'⟩ := unhide HS2
              exact ⟨_, rs', S', unhide HY2⟩
          · by_cases k2 : kd = 2
            · subst k2
              go_upto_region 15 with fail
              have b1 : (wr.alloc (.cells #[I 2, I m, I nd, I am, I an] 42)).cell? ⟨wr.heap.size, 1, none⟩ = some (I m) := (cells5 (unhide HV)).2.1
              obtain ⟨ue, hue⟩ : ∃ ue, unbE t.es m = ue := ⟨_, rfl⟩
              have HUE := hide hue
              clear hue
              go_cut [81] from 73 to 80 (fun s wd => s = .bool false ∧ ∃ rs', PL k h R w wd (t.unbind m) rs' ∧ wd.heap[wr.heap.size]? = some (.cells #[I 2, I m, I nd, I am, I an] 42))
              case first =>
                go_region_held3 (fun w' => w'.cell? ⟨wr.heap.size, 1, none⟩ = some (I m)) (go_keep)
                  (first
                    | (go_at_call 9; refine (unbind_1 (unhide HSV).drew m (unhide HV)).mono ?_; rintro e w3 ⟨rfl, HS1, hy1⟩; rw [unhide HUE]; have b2 := (cells5 hy1).2.1; have HY1 := hide hy1; clear hy1)
                    | (go_at_call 19; refine (unbind_2 (unhide HSV).drew (by omega) m (unhide HS1).1 (unhide HS1).2.1 (unhide HS1).2.2 (unhide HY1)).mono ?_; rintro e w4 ⟨rfl, HS2, hy2⟩; rw [unhide HUE]; have b3 := (cells5 hy2).2.1; have HY2 := hide hy2; clear hy2))
                all_goals
                  go_wp2_with fail
                  go_meet
                  case rel =>
                    obtain ⟨rs', S'⟩ := unhide HS2
                    exact ⟨rfl, rs', S', unhide HY2⟩
              case rest =>
                obtain ⟨rfl, rs', S', hy2⟩ := hcut
                have HS2 := hide (S'.mono (B' := (k : Int) + 1) (by omega))
                have HY2 := hide hy2
                clear S' hy2 HSV HV b1
                go_wp2_with fail
                go_meet
                case rel => exact ⟨_, rs', unhide HS2, unhide HY2⟩
            · have q1 : (kd == 1) = false := by simp [k1]
              have q2 : (kd == 2) = false := by simp [k2]
              go_wp2_with fail
              go_meet
              case rel => exact ⟨t, rs, (unhide HSV).mono (by omega), unhide HV⟩
        case rest =>
          obtain ⟨t', rs', S, hat⟩ := hcut
          clear HSV HV
          obtain ⟨c0, c1, c2, c3, c4⟩ := cells5 hat
          obtain ⟨ua, hua⟩ : ∃ x, upM t'.es am an = x := ⟨_, rfl⟩
          obtain ⟨ub, hub⟩ : ∃ x, upN t'.es am an = x := ⟨_, rfl⟩
          obtain ⟨uc, huc⟩ : ∃ x, upIs t'.es am an = x := ⟨_, rfl⟩
          obtain ⟨tp, htp⟩ : ∃ x, rootTop t'.rt t'.es m = x := ⟨_, rfl⟩
          obtain ⟨rc, hrc⟩ : ∃ x, rootIs t'.es m = x := ⟨_, rfl⟩
          obtain ⟨⟨d1, d2⟩, hd⟩ : ∃ x, down t'.md t'.es am an = x := ⟨_, rfl⟩
          obtain ⟨cv, hcv⟩ : ∃ x, any t'.es (isNd nd) = x := ⟨_, rfl⟩
          have hl1 : (lst t'.es).length ≤ 1000 := by have := S.q.wf.le; simp [lst]; omega
          have hl2 : (abv t'.es m).length ≤ 1000 := by have := abv_len' t'.es m; have := S.q.wf.le; omega
          obtain ⟨L1, hL1⟩ : ∃ x, lst t'.es = x := ⟨_, rfl⟩
          obtain ⟨L2, hL2⟩ : ∃ x, abv t'.es m = x := ⟨_, rfl⟩
          rw [hL1] at hl1
          rw [hL2] at hl2
          obtain ⟨n1, hn1⟩ : ∃ x, L1.length = x := ⟨_, rfl⟩
          obtain ⟨n2, hn2⟩ : ∃ x, L2.length = x := ⟨_, rfl⟩
          rw [hn1] at hl1
          rw [hn2] at hl2
          have HF := hide (And.intro (And.intro hua (And.intro hub huc)) (And.intro (And.intro htp hrc) (And.intro hd (And.intro hcv (And.intro (And.intro hL1 hn1) (And.intro hL2 hn2))))))
          have hyl := lt_of_heap hat
          have HS := hide S
          have HY := hide hat
          clear S hat hua hub huc htp hrc hd hcv hL1 hL2 hn1 hn2
          go_wp2_with fail
          refine (up_PL (unhide HS) (unhide HY) (unhide HF).1.1 (unhide HF).1.2.1 (unhide HF).1.2.2).mono ?_
          rintro e w3 ⟨rfl, HS3⟩
          have hyl3 := lt_of_heap (unhide HS3).2
          obtain ⟨x0, x1, x2, x3, x4⟩ := cells5 (unhide HS3).2
          clear HS HY c0 c1 c2 c3 c4 hyl x0 x1 x2
          go_wp2_with fail
          refine (rup_PL ((unhide HS3).1.alloc _) (((below_alloc _ _).block _ hyl3).trans (unhide HS3).2) (putAll _ _ rfl) (unhide HF).1.1 (unhide HF).1.2.1 (unhide HF).1.2.2).mono ?_
          rintro e w4 ⟨rfl, HS4⟩
          have HP := hide (⟨(unhide HS4).1.alloc (.cells #[I ua, I ub] 29), ((below_alloc _ _).block _ (lt_of_heap (unhide HS4).2.1)).trans (unhide HS4).2.1, ((below_alloc _ _).block _ (lt_of_heap (unhide HS4).2.2)).trans (unhide HS4).2.2, putAll _ _ rfl⟩ : PY (k + 1) h R w (w4.alloc (.cells #[I ua, I ub] 29)) t' rs' wr.heap.size w3.heap.size w4.heap.size kd m nd am an ua ub)
          have hyl4 := lt_of_heap (unhide HS4).2.1
          obtain ⟨x0, x1, x2, x3, x4⟩ := cells5 (unhide HS4).2.1
          clear HS3 HS4 x0 x2 x3 x4
          go_wp2_with fail
          refine (root_P (unhide HP) (unhide HF).2.1.1 (unhide HF).2.1.2).mono ?_
          rintro e w5 ⟨rfl, ⟨y1, y2, y3, y4, p0, p1, q0, q1⟩, HP5⟩
          clear HP x1
          go_wp2_with fail
          refine (rroot_P (unhide HP5) (unhide HF).2.1.1 (unhide HF).2.1.2).mono ?_
          rintro e w6 ⟨rfl, ⟨z1, z2, z3, z4, r0, r1, s0, s1⟩, HP6⟩
          clear HP5 y1 y2 y3 y4 p0 p1 q0 q1
          go_upto_region 21 with fail
          go_cut [169] from 110 to 168 (fun s wd => s = .bool false ∧ PL (k + 1) h R w wd t' rs')
          case first =>
            go_region_held3 (fun w' => w'.cell? ⟨wr.heap.size, 1, none⟩ = some (I m) ∧ w'.cell? ⟨wr.heap.size, 2, none⟩ = some (I nd) ∧ w'.cell? ⟨wr.heap.size, 3, none⟩ = some (I am) ∧ w'.cell? ⟨wr.heap.size, 4, none⟩ = some (I an) ∧ w'.cell? ⟨w3.heap.size, 0, none⟩ = some (I ua) ∧ w'.cell? ⟨w3.heap.size, 1, none⟩ = some (I ub) ∧ w'.cell? ⟨w4.heap.size, 0, none⟩ = some (I ua) ∧ w'.cell? ⟨w4.heap.size, 1, none⟩ = some (I ub)) (go_keep)
              (first
                | (go_at_call 11; refine (down_P (unhide HP6).drew (unhide HF).2.2.1).mono ?_; rintro e v1 ⟨rfl, ⟨y1, y2, y3, y4, p0, p1, q0, q1⟩, HQ1⟩)
                | (go_at_call 23; refine (rdown_P (unhide HQ1) (by omega) (unhide HF).2.2.1).mono ?_; rintro e v2 ⟨rfl, ⟨y1, y2, y3, y4, p0, p1, q0, q1⟩, HQ2⟩)
                | (go_at_call 13; refine (cov_P (unhide HQ2) (unhide HF).2.2.2.1).mono ?_; rintro e v3 ⟨rfl, ⟨y1, y2, y3, y4, p0, p1, q0, q1⟩, HQ3⟩)
                | (go_at_call 24; refine (rcov_P (unhide HQ3) (by omega) (unhide HF).2.2.2.1).mono ?_; rintro e v4 ⟨rfl, ⟨y1, y2, y3, y4, p0, p1, q0, q1⟩, HQ4⟩)
                | (go_at_call 25; refine (list_P (unhide HQ4) (unhide HF).2.2.2.2.1.1 (unhide HF).2.2.2.2.1.2).mono ?_; rintro e v5 ⟨a5, cp5, rfl, ⟨y1, y2, y3, y4, p0, p1, q0, q1⟩, HQ5⟩)
                | (go_at_call 26; refine (rlist_P (unhide HQ5).1 (by omega) (unhide HF).2.2.2.2.1.1 (unhide HF).2.2.2.2.1.2 (unhide HQ5).2).mono ?_; rintro e v6 ⟨a6, cp6, rfl, ⟨y1, y2, y3, y4, p0, p1, q0, q1⟩, HQ6⟩)
                | (go_at_call 14; refine (same_P (unhide HQ9).1 (unhide HF).2.2.2.2.2.2 hl2 (unhide HQ9).2.1 (unhide HQ9).2.2).mono ?_; rintro e v10 ⟨rfl, ⟨y1, y2, y3, y4, p0, p1, q0, q1⟩, HQ10⟩)
                | (go_at_call 14; refine (same_P (unhide HQ6).1 (unhide HF).2.2.2.2.1.2 hl1 (unhide HQ6).2.1 (unhide HQ6).2.2).mono ?_; rintro e v7 ⟨rfl, ⟨y1, y2, y3, y4, p0, p1, q0, q1⟩, HQ7⟩)
                | (go_at_call 15; refine (above_P (unhide HQ7) (unhide HF).2.2.2.2.2.1 (unhide HF).2.2.2.2.2.2).mono ?_; rintro e v8 ⟨a8, cp8, rfl, ⟨y1, y2, y3, y4, p0, p1, q0, q1⟩, HQ8⟩)
                | (go_at_call 27; refine (rabove_P (unhide HQ8).1 (by omega) (unhide HF).2.2.2.2.2.1 (unhide HF).2.2.2.2.2.2 (unhide HQ8).2).mono ?_; rintro e v9 ⟨a9, cp9, rfl, ⟨y1, y2, y3, y4, p0, p1, q0, q1⟩, HQ9⟩))
            all_goals
              go_wp2_with fail
              go_meet
              case rel => exact ⟨rfl, (unhide HQ10).pl⟩
          case rest =>
            obtain ⟨rfl, S8⟩ := hcut
            have HS8 := hide S8
            clear S8 HP6 z1 z2 z3 z4 r0 r1 s0 s1
            go_wp2_with fail
            go_roundw
            case rel => exact ⟨k + 1, t', rs', by go_num, by omega, by omega, by rw [show ((k + 1 : Nat) : Int) = (k : Int) + 1 by omega]; exact unhide HS8⟩
            case measure => simp [intOf]; omega
      · have HS := hide (S.mono (B' := 60) (by omega))
        clear S
        by_cases hkl2 : k < len
        · obtain rfl : k = 60 := by omega
          have j1 : (60 : Int) < (len : Int) := by omega
          clear hc
          go_wp2_with fail
          go_meet
          case rel => exact ⟨t, rs, unhide HS⟩
        · obtain rfl : k = len := by omega
          clear hc
          go_wp2_with fail
          go_meet
          case rel => exact ⟨t, rs, unhide HS⟩
  case rest =>
    obtain ⟨t, rs, S⟩ := hcut
    have HS := hide S
    clear S
    go_wp2_with fail
    refine (known_any _).mono ?_
    rintro e w9 ⟨rfl, b9⟩
    have HB := hide ((unhide HS).below b9).be
    clear b9 HS
    go_wp2_with fail
    go_ret
    exact ⟨rfl, by rw [hh]; exact unhide HB⟩
end Go.Proofs.Ythmpplcaomgdoaa.Mt
