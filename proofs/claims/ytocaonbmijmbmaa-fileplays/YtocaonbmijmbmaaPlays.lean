/-
  FilePlays' walk: both tables are asked the same, and answer the same.
-/
import Derived.Test.YtocaonbmijmbmaaPlaysB
import Derived.Deep.CutRange
import Derived.Deep.CutBlock
namespace Go.Proofs.Ytocaonbmijmbmaa
open Go.RowKit Go.Shelf
attribute [local go_sem ↓] Go.wp_at_zero Go.wp_at_succ

set_option maxRecDepth 100000 in
set_option maxHeartbeats 1000000 in
theorem plays_bad (nn : Int) (hn : nn < 1 ∨ 64 < nn) (pa : Option Addr) (len cap : Nat) (w : World) :
    Calls Try.prog 4 #[I nn, .slice pa len cap] w fun e w' => e = .returned (.bool true) ∧ Below w.heap.size w w' := by
  have HN := hide (new_bad nn hn w)
  have HK := hide (fun W => known_true W)
  rcases hn with h1 | h1
  · go_enter Try.func4, Try.ntmps4
    go_wp2_with fail
    refine (unhide HN).mono ?_
    rintro e w' ⟨rfl, hw'⟩
    rw [hw']
    clear hw' w' HN
    go_wp2_with fail
    refine (unhide HK w).mono ?_
    rintro e v3 ⟨rfl, hB3⟩
    have HE := hide hB3
    clear hB3
    go_wp2_with fail
    go_ret
    exact ⟨rfl, unhide HE⟩
  · have h0 : ¬ nn < 1 := by omega
    go_enter Try.func4, Try.ntmps4
    go_wp2_with fail
    refine (unhide HN).mono ?_
    rintro e w' ⟨rfl, hw'⟩
    rw [hw']
    clear hw' w' HN
    go_wp2_with fail
    refine (unhide HK w).mono ?_
    rintro e v3 ⟨rfl, hB3⟩
    have HE := hide hB3
    clear hB3
    go_wp2_with fail
    go_ret
    exact ⟨rfl, unhide HE⟩

set_option maxRecDepth 100000 in
set_option maxHeartbeats 4000000 in
theorem plays_good (n : Nat) (hn1 : 1 ≤ n) (hn2 : n ≤ 64) (pa : Option Addr) (len cap : Nat) (w : World) (ha : AsksAt w pa len) :
    Calls Try.prog 4 #[I n, .slice pa len cap] w fun e w' => e = .returned (.bool true) ∧ Below w.heap.size w w' := by
  have hlen : (len : Int) ≤ 9223372036854775807 := by have := ha.1; omega
  have HA := hide ha
  have HK := hide (fun W => known_true W)
  have q1 : ¬ (n : Int) < 1 := by omega
  have q2 : ¬ (64 : Int) < (n : Int) := by omega
  clear ha
  go_enter Try.func4, Try.ntmps4
  go_wp2_with fail
  refine (new_good n hn1 hn2 w).mono ?_
  rintro e w1 ⟨rfl, hT1, hB1⟩
  go_wp2_with fail
  refine (rnew_any n w1).mono ?_
  rintro e w2 ⟨rfl, hR2, hB2⟩
  have HS : Hid (PW w.heap.size w.heap.size w1.heap.size n w w2 []) := ⟨hT1.below hB2, ⟨_, _, hR2, RL.nil⟩, Wf.nil, hB1.trans (hB2.mono hB1.size), by have := hT1.lt; omega, Nat.le_refl _, hB1.size⟩
  generalize hh : w.heap.size = h at *
  generalize w1.heap.size = r at *
  clear hT1 hB1 hR2 hB2
  go_upto_block 0 with fail
  go_cut [] from 8 to 217 (fun wc => ∃ es, PW h h r n w wc es)
  case first =>
    go_wp2_with fail
    go_loopw [8] (fun v wr => ∃ (k : Nat) (es : List Op), v = I k ∧ k ≤ 150 ∧ k ≤ len ∧ PW h h r n w wr es) (fun v _ => 150 - (intOf v).toNat)
    case atStart => exact ⟨0, _, rfl, by omega, by omega, unhide HS⟩
    case round =>
      clear HS
      obtain ⟨k, es, rfl, hk, hkl, S⟩ := hrel
      by_cases hc : k < len ∧ k < 150
      · obtain ⟨b, off, kd, p, d, f, s, m, nd, rfl, hb, A⟩ := (unhide HA).2 k hc.1
        rw [hh] at hb
        have j1 : (k : Int) < (len : Int) := by omega
        have j2 : (k : Int) < 150 := by omega
        have j0 : (0 : Int) ≤ (k : Int) := by omega
        have A1 := A.below hb S.be
        have c0 := A1.c0
        have c1 := A1.c1
        have c2 := A1.c2
        have c3 := A1.c3
        have c4 := A1.c4
        have c5 := A1.c5
        have c6 := A1.c6
        have HS := hide S
        clear A A1 S hc
        go_upto_block 2 with fail
        have hV := putAll (w := wr) (askO kd p d f s m nd) _ rfl
        have HSV := hide ((unhide HS).alloc (askO kd p d f s m nd))
        clear HS c0 c1 c2 c3 c4 c5 c6
        generalize wr.heap.size = y at *
        generalize wr.alloc (askO kd p d f s m nd) = V at *
        obtain ⟨b0, b1, b2, b3, b4, b5, b6⟩ := cells7 hV
        have HV := hide hV
        clear hV
        go_cut [10, 11, 12, 13, 14, 15, 16, 17] from 66 to 144 (fun _ _ _ _ _ _ _ _ wc => ∃ es', PW h h r n w wc es' ∧ wc.heap[y]? = some (askO kd p d f s m nd))
        case first =>
          by_cases k1 : kd = 1
          · subst k1
            go_wp2_with fail
            refine (open_1 (unhide HSV) (unhide HV)).mono ?_
            rintro e w3 ⟨rfl, HS1, hy1⟩
            obtain ⟨c0, c1, c2, c3, c4, c5, c6⟩ := cells7 hy1
            have HY1 := hide hy1
            clear hy1 b0 b1 b2 b3 b4 b5 b6
            generalize hx1 : openA es n p = x1
            generalize hx2 : roomE es n p = x2
            have HX1 := hide hx1
            have HX2 := hide hx2
            clear hx1 hx2
            go_wp2_with fail
            refine (open_2 (unhide HS1) (unhide HY1)).mono ?_
            rintro e w4 ⟨rfl, HS2, hy2⟩
            rw [unhide HX1, unhide HX2]
            have HY2 := hide hy2
            clear hy2 HS1 HY1 HSV HV c0 c1 c2 c3 c4 c5 c6
            go_wp2_with fail
            go_meet
            case rel => exact ⟨_, unhide HS2, unhide HY2⟩
          · by_cases k2 : kd = 2
            · subst k2
              go_wp2_with fail
              refine (close_1 (unhide HSV) (unhide HV)).mono ?_
              rintro e w3 ⟨rfl, HS1, hy1⟩
              unfold Op.pv
              generalize hx1 : (getV es p d).m = x1
              generalize hx2 : (getV es p d).n = x2
              generalize hx3 : findE es p d = x3
              have HX1 := hide hx1
              have HX2 := hide hx2
              have HX3 := hide hx3
              clear hx1 hx2 hx3 b0 b1 b2 b3 b4 b5 b6
              obtain ⟨U, hU, hu, hBU, hsU⟩ := place2 w3 x1 x2 29
              have hyU := (hBU.block y (lt_of_heap hy1)).trans hy1
              obtain ⟨c0, c1, c2, c3, c4, c5, c6⟩ := cells7 hyU
              have HSU := hide ((unhide HS1).below hBU)
              have HYU := hide hyU
              have HU := hide hu
              clear hyU hBU hsU hy1 HS1 hu
              go_wp2_with fail
              refine (close_2 (unhide HSU) (unhide HYU) (unhide HU)).mono ?_
              rintro e w4 ⟨rfl, HS2, hy2, hz2⟩
              unfold Op.pv
              rw [unhide HX1, unhide HX2, unhide HX3]
              obtain ⟨T, hT, ht, hBT, hsT⟩ := place2 w4 x1 x2 29
              obtain ⟨z0, z1⟩ := cells2 ((hBT.block _ (lt_of_heap hz2)).trans hz2)
              obtain ⟨t0, t1⟩ := cells2 ht
              have HYT := hide ((hBT.block y (lt_of_heap hy2)).trans hy2)
              have HST := hide ((unhide HS2).below hBT)
              clear hy2 hz2 ht hBT hsT HS2 HSU HYU HU HSV HV hU c0 c1 c2 c3 c4 c5 c6
              go_wp2_with fail
              go_meet
              case rel => exact ⟨_, unhide HST, unhide HYT⟩
            · by_cases k3 : kd = 3
              · subst k3
                go_upto_region 23 with fail
                obtain ⟨ue, hue⟩ : ∃ ue, seekE es p d s = ue := ⟨_, rfl⟩
                have HUE := hide hue
                clear hue
                go_cut [144] from 128 to 143 (fun s' wd => s' = .bool false ∧ ∃ es', PW h h r n w wd es' ∧ wd.heap[y]? = some (askO 3 p d f s m nd))
                case first =>
                  go_region_held3 (fun w' => w'.cell? ⟨y, 1, none⟩ = some (I p) ∧ w'.cell? ⟨y, 2, none⟩ = some (I d) ∧ w'.cell? ⟨y, 4, none⟩ = some (I s)) (go_keep)
                    (first
                      | (go_at_call 10; refine (seek_1 (unhide HSV).drew (unhide HV)).mono ?_; rintro e w3 ⟨rfl, HS1, hy1⟩; rw [unhide HUE]; obtain ⟨-, e1, e2, -, e4, -, -⟩ := cells7 hy1; have HY1 := hide hy1; clear hy1)
                      | (go_at_call 18; refine (seek_2 (unhide HS1) (unhide HY1)).mono ?_; rintro e w4 ⟨rfl, HS2, hy2⟩; rw [unhide HUE]; obtain ⟨-, f1, f2, -, f4, -, -⟩ := cells7 hy2; have HY2 := hide hy2; clear hy2))
                  all_goals
                    go_wp2_with fail
                    go_meet
                    case rel => exact ⟨rfl, _, unhide HS2, unhide HY2⟩
                case rest =>
                  obtain ⟨rfl, es', S', hy2⟩ := hcut
                  have HS2 := hide S'
                  have HY2 := hide hy2
                  clear S' hy2 HSV HV b0 b1 b2 b3 b4 b5 b6
                  go_wp2_with fail
                  go_meet
                  case rel => exact ⟨_, unhide HS2, unhide HY2⟩
              · have q1 : (kd == 1) = false := by simp [k1]
                have q2 : (kd == 2) = false := by simp [k2]
                have q3 : (kd == 3) = false := by simp [k3]
                go_wp2_with fail
                go_meet
                case rel => exact ⟨_, unhide HSV, unhide HV⟩
        case rest =>
          obtain ⟨es', S, hy⟩ := hcut
          clear HSV HV b0 b1 b2 b3 b4 b5 b6
          obtain ⟨b0, b1, b2, b3, b4, b5, b6⟩ := cells7 hy
          obtain ⟨x1, hx1⟩ : ∃ x, (getV es' p d).m = x := ⟨_, rfl⟩
          obtain ⟨x2, hx2⟩ : ∃ x, (getV es' p d).n = x := ⟨_, rfl⟩
          obtain ⟨x3, hx3⟩ : ∃ x, (getV es' p d).f = x := ⟨_, rfl⟩
          obtain ⟨x4, hx4⟩ : ∃ x, (getV es' p d).s = x := ⟨_, rfl⟩
          obtain ⟨x5, hx5⟩ : ∃ x, findE es' p d = x := ⟨_, rfl⟩
          have HX := hide (And.intro hx1 (And.intro hx2 (And.intro hx3 (And.intro hx4 hx5))))
          have HS := hide S
          have HY := hide hy
          clear hx1 hx2 hx3 hx4 hx5 S hy
          go_wp2_with fail
          refine (get_1 (unhide HS) (unhide HY) (unhide HX).1 (unhide HX).2.1 (unhide HX).2.2.1 (unhide HX).2.2.2.1 (unhide HX).2.2.2.2).mono ?_
          rintro e w3 ⟨rfl, HS3, hy3⟩
          obtain ⟨U, hU, hu, hBU, hsU⟩ := var4 w3 x1 x2 x3 x4 34
          have hyU := (hBU.block y (lt_of_heap hy3)).trans hy3
          have SU := (unhide HS3).below hBU
          have HSU := hide SU
          have HYU := hide hyU
          have HU := hide hu
          obtain ⟨c0, c1, c2, c3, c4, c5, c6⟩ := cells7 hyU
          clear hyU SU hu hBU hsU hy3 HS3 HS HY b0 b1 b2 b3 b4 b5 b6
          go_wp2_with fail
          refine (get_2 (unhide HSU) (unhide HYU) (unhide HU) (unhide HX).1 (unhide HX).2.1 (unhide HX).2.2.1 (unhide HX).2.2.2.1 (unhide HX).2.2.2.2).mono ?_
          rintro e w4 ⟨rfl, HS4, hy4, hu4⟩
          obtain ⟨T, hT, ht, hBT, hsT⟩ := var4 w4 x1 x2 x3 x4 50
          have G : PG h h r n w T es' y w3.heap.size w4.heap.size kd p d f s m nd x1 x2 x3 x4 := ⟨(unhide HS4).below hBT, (hBT.block y (lt_of_heap hy4)).trans hy4, (hBT.block _ (lt_of_heap hu4)).trans hu4, ht⟩
          obtain ⟨d1, d5, e0, e1, e2, e3, g0, g1, g2, g3⟩ := G.cells
          have HG : Hid (PG h h r n w T.drew es' y w3.heap.size w4.heap.size kd p d f s m nd x1 x2 x3 x4) := G.below (below_d (Below.refl _ _))
          have HGp := hide G.pw
          clear G hy4 hu4 ht hBT hsT HS4 HSU HYU HU hU HX c0 c1 c2 c3 c4 c5 c6
          go_upto_region 27 with fail
          generalize w3.heap.size = u at *
          generalize w4.heap.size = v at *
          go_cut [217] from 163 to 216 (fun s' wd => s' = .bool false ∧ PW h h r n w wd es')
          case first =>
            go_region_held3 (fun w' => w'.cell? ⟨y, 1, none⟩ = some (I p) ∧ w'.cell? ⟨y, 5, none⟩ = some (I m) ∧ w'.cell? ⟨u, 0, none⟩ = some (I x1) ∧ w'.cell? ⟨u, 1, none⟩ = some (I x2) ∧ w'.cell? ⟨u, 2, none⟩ = some (I x3) ∧ w'.cell? ⟨u, 3, none⟩ = some (I x4) ∧ w'.cell? ⟨v, 0, none⟩ = some (I x1) ∧ w'.cell? ⟨v, 1, none⟩ = some (I x2) ∧ w'.cell? ⟨v, 2, none⟩ = some (I x3) ∧ w'.cell? ⟨v, 3, none⟩ = some (I x4)) (go_keep)
              (first
                | (go_at_call 20; refine (g_room (by assumption)).mono ?_; rintro e w' ⟨rfl, ⟨i1, i2, i3, i4, i5, i6, i7, i8, i9, i10⟩, HG1⟩)
                | (go_at_call 21; refine (g_rroom (by assumption)).mono ?_; rintro e w' ⟨rfl, ⟨i1, i2, i3, i4, i5, i6, i7, i8, i9, i10⟩, HG2⟩)
                | (go_at_call 12; refine (g_count (by assumption)).mono ?_; rintro e w' ⟨rfl, ⟨i1, i2, i3, i4, i5, i6, i7, i8, i9, i10⟩, HG3⟩)
                | (go_at_call 22; refine (g_rcount (by assumption)).mono ?_; rintro e w' ⟨rfl, ⟨i1, i2, i3, i4, i5, i6, i7, i8, i9, i10⟩, HG4⟩)
                | (go_at_call 13; refine (g_in (by assumption)).mono ?_; rintro e w' ⟨rfl, ⟨i1, i2, i3, i4, i5, i6, i7, i8, i9, i10⟩, HG5⟩)
                | (go_at_call 23; refine (g_rin (by assumption)).mono ?_; rintro e w' ⟨rfl, ⟨i1, i2, i3, i4, i5, i6, i7, i8, i9, i10⟩, HG6⟩))
            all_goals
              go_wp2_with fail
              go_meet
              case rel => exact ⟨rfl, (unhide HG6).pw⟩
          case rest =>
            obtain ⟨rfl, S'⟩ := hcut
            have HS' := hide S'
            clear S' HG HGp d1 d5 e0 e1 e2 e3 g0 g1 g2 g3
            go_wp2_with fail
            go_roundw
            case rel => exact ⟨k + 1, _, by go_num, by omega, by omega, unhide HS'⟩
            case measure => simp [intOf]; omega
      · have HS := hide S
        clear S
        by_cases hkl2 : k < len
        · obtain rfl : k = 150 := by omega
          have j1 : (150 : Int) < (len : Int) := by omega
          clear hc
          go_wp2_with fail
          go_meet
          case rel => exact ⟨_, unhide HS⟩
        · obtain rfl : k = len := by omega
          clear hc
          go_wp2_with fail
          go_meet
          case rel => exact ⟨_, unhide HS⟩
  case rest =>
  obtain ⟨es, S⟩ := hcut
  have HE := hide S.be
  have hsz := S.lt.2.2
  clear S HS
  go_wp2_with fail
  refine (unhide HK wc).mono ?_
  rintro e v3 ⟨rfl, hB3⟩
  have HF := hide ((unhide HE).trans (hB3.mono hsz))
  clear hB3 HE
  go_wp2_with fail
  go_ret
  exact ⟨rfl, by rw [hh]; exact unhide HF⟩
theorem plays_walk (nn : Int) (pa : Option Addr) (len cap : Nat) (w : World) (ha : AsksAt w pa len) :
    Calls Try.prog 4 #[I nn, .slice pa len cap] w fun e w' => e = .returned (.bool true) ∧ Below w.heap.size w w' := by
  by_cases h : nn < 1 ∨ 64 < nn
  · exact plays_bad nn h pa len cap w
  · obtain ⟨n, rfl⟩ : ∃ n : Nat, nn = n := ⟨nn.toNat, by omega⟩
    exact plays_good n (by omega) (by omega) pa len cap w ha
end Go.Proofs.Ytocaonbmijmbmaa
