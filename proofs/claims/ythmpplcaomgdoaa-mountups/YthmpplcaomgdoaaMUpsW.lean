/-
  The walk of MountUps.
-/
import Derived.Test.YthmpplcaomgdoaaMUpsA
import Derived.Deep.CutRange
import Derived.Deep.CutBlock
namespace Go.Proofs.Ythmpplcaomgdoaa.Mt
open Go.RowKit
attribute [local go_sem ↓] Go.wp_at_zero Go.wp_at_succ

set_option maxRecDepth 100000 in
set_option maxHeartbeats 8000000 in
theorem ups_walk (pa : Option Addr) (len cap : Nat) (pm pn : Int) (w : World) (ha : AsksAt w pa len) (_hm : (kl pm).wf = true) (_hn : (kl pn).wf = true) :
    Calls Try.prog 7 #[.slice pa len cap, pv pm pn] w fun e w' => e = .returned (.bool true) ∧ Below w.heap.size w w' := by
  have hlen : (len : Int) ≤ 9223372036854775807 := by have := ha.1; omega
  have HA := hide ha
  clear ha
  unfold pv
  go_enter Try.func7, Try.ntmps7
  go_wp2_with fail
  refine (new_Q 1 _).mono ?_
  rintro e w1 ⟨rfl, h1, b1⟩
  have hsz : (w.alloc (.cells #[I pm, I pn] 29)).heap.size = w.heap.size + 1 := by simp
  rw [hsz] at h1 b1 ⊢
  have HS := hide (show DS 0 w.heap.size w w1 pm pn ⟨1, 0, []⟩ from ⟨h1, (b1.block _ (by omega)).trans (putAll _ _ rfl), (below_alloc w _).trans (b1.mono (by omega))⟩)
  clear h1 b1 hsz
  have zA := zeroA
  have zN := zeroN
  go_upto_block 0 with fail
  clear zA zN
  generalize hh : w.heap.size = h at *
  have US0 : US 0 h w ((w1.alloc (.cells Z100 53)).alloc (.cells Z50 54)) pm pn ⟨1, 0, []⟩ w1.heap.size (w1.heap.size + 1) := by
    have hs1 := (unhide HS).sz
    refine ⟨((unhide HS).alloc _).alloc _, ⟨⟨Z100, ?_, by simp [Z100], by simp⟩, ⟨Z50, ?_, by simp [Z50], by simp⟩⟩, hs1, by omega, by omega⟩
    · exact (Below.heap_alloc _ _ _ (by simp)).trans (putAll _ _ rfl)
    · exact putAll _ _ (by simp)
  obtain ⟨A, hA⟩ : ∃ A, A = w1.heap.size := ⟨_, rfl⟩
  rw [← hA] at US0 ⊢
  obtain ⟨N, hN⟩ : ∃ N, N = A + 1 := ⟨_, rfl⟩
  rw [← hN] at US0
  rw [← hN]
  have HU := hide US0
  clear US0 HS hA hN
  generalize (w1.alloc (.cells Z100 53)).alloc (.cells Z50 54) = W0 at *
  go_cut [] from 8 to 75 (fun wc => ∃ t, US 30 h w wc pm pn t A N)
  case first =>
    go_wp2_with fail
    go_loopw [8] (fun v wr => ∃ (k : Nat) (t : T), v = I k ∧ k ≤ 30 ∧ k ≤ len ∧ US k h w wr pm pn t A N) (fun v _ => 30 - (intOf v).toNat)
    case atStart => exact ⟨0, _, rfl, by omega, by omega, unhide HU⟩
    case round =>
      clear HU
      obtain ⟨k, t, rfl, hk, hkl, S⟩ := hrel
      by_cases hc : k < len ∧ k < 30
      · obtain ⟨b, off, kd, m, nd, am, an, rfl, hb, A0⟩ := (unhide HA).2 k hc.1
        rw [hh] at hb
        have j1 : (k : Int) < (len : Int) := by omega
        have j2 : (k : Int) < 30 := by omega
        have j0 : (0 : Int) ≤ (k : Int) := by omega
        have hmd := S.s.q.wf.pos
        have hAN := S.an
        have A1 := A0.below hb S.s.be
        have c3 := A1.c3
        have c4 := A1.c4
        have HA1 := hide A0
        have hyh := S.s.sz
        have hA1 := S.ha
        have hN1 := S.hn
        have HS := hide S
        have HW5 := hide (fun (v : Int) (w : World) => within_any v 5 w (by decide) (by decide))
        clear A0 A1 S hc
        go_upto_region 9 with fail
        go_cut [9] from 33 to 46 (fun s wc => ∃ r1 r2 : Int, s = .pointer (some ⟨wr.heap.size, 0, none⟩) ∧ wc.heap[wr.heap.size]? = some (.cells #[I r1, I r2] 29) ∧ US k h w wc pm pn t A N)
        case first =>
          go_region_held3 (fun w' => w'.cell? ⟨b, off + k * 5 + 3, none⟩ = some (I am) ∧ w'.cell? ⟨b, off + k * 5 + 4, none⟩ = some (I an)) (go_keep)
            (first
              | (go_at_call 28; refine (unhide HW5 _ _).mono ?_; rintro e w' ⟨⟨r, hr, rfl⟩, rfl⟩))
          all_goals
            go_wp2_with fail
            go_meet
            case rel => exact ⟨_, _, rfl, putAll _ _ rfl, ((unhide HS).alloc _).drew⟩
        case rest =>
          obtain ⟨r1, r2, rfl, hat, S1⟩ := hcut
          have hltA := (unhide HS).u.ltA
          have hltN := (unhide HS).u.ltN
          obtain ⟨a0, a1⟩ := cells2 hat
          have c2 := ((unhide HA1).below hb S1.s.be).c2
          have HS1 := hide S1
          have Hat := hide hat
          clear HS c3 c4 S1 hat
          go_upto_region 10 with fail
          go_cut [10, 11] from 47 to 57 (fun s1 s2 wd => s1 = I (t.bindN r1 r2) ∧ s2 = I (bindE t.es r1 r2) ∧ DS (k + 1) h w wd pm pn (t.bind r1 r2 nd) ∧ UA wd A N t.es ∧ wd.heap[wr.heap.size]? = some (.cells #[I r1, I r2] 29))
          case first =>
            go_region_held3 (fun w' => w'.cell? ⟨wr.heap.size, 0, none⟩ = some (I r1) ∧ w'.cell? ⟨wr.heap.size, 1, none⟩ = some (I r2) ∧ w'.cell? ⟨b, off + k * 5 + 2, none⟩ = some (I nd)) (go_keep)
              (first
                | (go_at_call 10; refine (bind_U (unhide HS1).drew (by omega) _ _ _ (unhide Hat) hyh hb c2).mono ?_; rintro e w' ⟨rfl, ⟨q0, q1, q2⟩, HS5⟩))
            all_goals
              go_wp2_with fail
              go_meet
              case rel => exact ⟨rfl, rfl, unhide HS5⟩
          case rest =>
            obtain ⟨rfl, rfl, S5, U5, hat5⟩ := hcut
            have hwf := (unhide HS1).s.q.wf
            obtain ⟨a0, a1⟩ := cells2 hat5
            have d2 := ((unhide HA1).below hb S5.be).c2
            clear a0 a1 HS1 Hat c2
            by_cases hz : bindE t.es r1 r2 = 0
            · obtain ⟨e1, e2, e3⟩ := bind_yes' (nd := nd) hz
              obtain ⟨j, hj⟩ : ∃ j : Nat, t.md + 1 = (j : Int) := ⟨(t.md + 1).toNat, by omega⟩
              rw [hz, e1, hj]
              have hbe : (t.bind r1 r2 nd).es = t.es ++ [⟨(j : Int), nd, r1, r2⟩] := by rw [T.bind, if_pos hz, hj]
              obtain ⟨X1, X2, X3, ⟨x1, x2, x3⟩, ⟨v0, v1, v2, y0, y1, y2⟩, ⟨f0, f1, f2⟩, U6, hfr, hfr2⟩ := U5.put ⟨(j : Int), nd, r1, r2⟩ j rfl (by omega) (fun q hq => ⟨hwf.num q hq, by have := (hwf.eld q hq).2; simp only []; omega⟩) hAN
              rw [← hbe] at U6
              simp only [] at x1 x2 x3
              obtain ⟨b0, b1⟩ := cells2 hat5
              have g2 : X2.cell? ⟨b, off + k * 5 + 2, none⟩ = some (I nd) := by
                rw [World.cell?_of_block (hfr2.blk b (by have := S5.sz; omega) (by simp; omega))]
                exact d2
              have S6 : DS (k + 1) h w X3 pm pn (t.bind r1 r2 nd) := ⟨S5.q.fm fun i cur ty hci ht => hfr.blk i (lt_of_heap hci) (by
                  obtain ⟨ca, u1, -, -⟩ := U5.a
                  obtain ⟨cn, u2, -, -⟩ := U5.n
                  simp only [List.mem_cons, List.not_mem_nil, or_false]
                  rintro (rfl | rfl)
                  · rw [u1] at hci; simp at hci
                    rcases ht with e | e
                    · omega
                    · rw [e] at hci; simp at hci
                  · rw [u2] at hci; simp at hci
                    rcases ht with e | e
                    · omega
                    · rw [e] at hci; simp at hci), (hfr.blk h (lt_of_heap S5.p) (by simp; omega)).trans S5.p, S5.be.trans (hfr.base (by have := S5.sz; omega) (by simp; omega))⟩
              have HS6 := hide (⟨S6, U6, hA1, hN1, hAN⟩ : US (k + 1) h w X3 pm pn (t.bind r1 r2 nd) A N)
              have i1 : ¬ (j : Int) < 1 := by omega
              have i2 : ¬ (50 : Int) ≤ (j : Int) := by omega
              have i3 : (j : Int) < 50 := by omega
              have i4 : (0 : Int) ≤ (j : Int) := by omega
              clear S5 U5 hat5 hwf S6 U6 hfr hfr2 hbe e1 e2 e3 hz hmd hj
              go_wp2_with fail
              go_roundw
              case rel => exact ⟨k + 1, _, by go_num, by omega, by omega, by rw [show ((k + 1 : Nat) : Int) = (k : Int) + 1 by omega]; exact unhide HS6⟩
              case measure => simp [intOf]; omega
            · have hze : (bindE t.es r1 r2 == 0) = false := by simp [hz]
              rw [bind_same hz] at S5
              have HS6 := hide (⟨S5, U5, hA1, hN1, hAN⟩ : US (k + 1) h w _ pm pn t A N)
              generalize bindE t.es r1 r2 = be at *
              generalize t.bindN r1 r2 = bn at *
              clear S5 U5 hat5 hwf d2
              go_wp2_with fail
              go_roundw
              case rel => exact ⟨k + 1, t, by go_num, by omega, by omega, by rw [show ((k + 1 : Nat) : Int) = (k : Int) + 1 by omega]; exact unhide HS6⟩
              case measure => simp [intOf]; omega
      · have HS := hide (S.mono (B' := 30) (by omega))
        clear S
        by_cases hkl2 : k < len
        · obtain rfl : k = 30 := by omega
          have j1 : (30 : Int) < (len : Int) := by omega
          clear hc
          go_wp2_with fail
          go_meet
          case rel => exact ⟨t, unhide HS⟩
        · obtain rfl : k = len := by omega
          clear hc
          go_wp2_with fail
          go_meet
          case rel => exact ⟨t, unhide HS⟩
  case rest =>
    obtain ⟨t, S⟩ := hcut
    have HS := hide S
    clear S HU
    go_wp2_with fail
    refine (list_Q (unhide HS).s.q).mono ?_
    rintro e w2 ⟨v, rfl, hown, b2⟩
    obtain ⟨a, cp, rfl, hsl⟩ := Sl.of hown
    have hle := (unhide HS).s.q.wf.le
    have hln : (lst t.es).length ≤ 8 := by simp [lst]; omega
    have HS2 := hide ((unhide HS).below b2)
    have HL := hide hsl
    obtain ⟨n, hn⟩ : ∃ n, n = (lst t.es).length := ⟨_, rfl⟩
    rw [← hn] at hln ⊢
    have Hn := hide hn
    clear b2 hsl HS hn hown
    go_wp2_with fail
    go_loopw [13] (fun v wr => ∃ i : Nat, v = I i ∧ i ≤ n ∧ US 30 h w wr pm pn t A N ∧ Sl wr a (lst t.es)) (fun v _ => n - (intOf v).toNat)
    case atStart => exact ⟨0, rfl, by omega, unhide HS2, unhide HL⟩
    case round =>
      clear HS2 HL
      obtain ⟨i, rfl, hi, S, hsl⟩ := hrel
      by_cases hin : i < n
      · obtain ⟨x, hx⟩ : ∃ x, (lst t.es)[i]? = some x := ⟨_, List.getElem?_eq_getElem (by have := unhide Hn; omega)⟩
        obtain ⟨g, rfl, k0⟩ := hsl.at' i x hx
        have j1 : (i : Int) < (n : Int) := by omega
        have j0 : (0 : Int) ≤ (i : Int) := by omega
        by_cases x0 : x = 0
        · subst x0
          have HS := hide S
          have HL := hide hsl
          clear S hsl hx
          go_wp2_with fail
          go_roundw
          case rel => exact ⟨i + 1, by go_num, by omega, unhide HS, unhide HL⟩
          case measure => simp [intOf]; omega
        · obtain ⟨p, hp, hpx⟩ := lst_of hx x0
          have hpos := S.s.q.wf.num p hp
          have hmd := S.s.q.wf.pos
          have hel := (S.s.q.wf.eld p hp).2
          obtain ⟨j, hj⟩ : ∃ j : Nat, x = (j : Int) := ⟨x.toNat, by omega⟩
          subst hj
          have hjn : p.n.toNat = j := by omega
          obtain ⟨ca, ca1, ca2, ca3⟩ := S.u.a
          obtain ⟨cn, cn1, cn2, cn3⟩ := S.u.n
          obtain ⟨a3, a4⟩ := ca3 p hp
          have n3 := cn3 p hp
          rw [hjn] at a3 a4 n3
          have m0 : wr.cell? ⟨N, j, none⟩ = some (I p.top) := by rw [cell_of cn1]; exact n3
          have m1 : wr.cell? ⟨A, j * 2, none⟩ = some (I p.am) := by rw [cell_of ca1]; exact a3
          have m2 : wr.cell? ⟨A, j * 2 + 1, none⟩ = some (I p.an) := by rw [cell_of ca1]; exact a4
          have i3 : (j : Int) < 50 := by omega
          have i4 : (0 : Int) ≤ (j : Int) := by omega
          have x1 : ((j : Int) == 0) = false := by simp; omega
          obtain ⟨u1, u2, u3⟩ := up_top S.s.q.wf hp
          have Hnot := hide (fun n hn => up_not S.s.q.wf hp (n := n) hn)
          rw [hpx] at u1 u2 u3 Hnot
          have HS := hide S
          have HL := hide hsl
          have Hm1 := hide m1
          have Hm2 := hide m2
          clear S hsl hx ca1 ca2 ca3 cn1 cn2 cn3 a3 a4 n3 hpos hmd hel hjn hpx hp m1 m2
          go_upto_region 21 with fail
          go_cut [14, 15] from 89 to 104 (fun s1 s2 wd => ∃ y : Nat, s1 = .pointer (some ⟨y, 0, none⟩) ∧ s2 = .bool true ∧ wd.heap[y]? = some (.cells #[I p.am, I p.an] 29) ∧ Below wr.heap.size wr wd)
          case first =>
            go_region_held3 (fun w' => w'.cell? ⟨g, i, none⟩ = some (I (j : Int)) ∧ w'.cell? ⟨N, j, none⟩ = some (I p.top)) (go_keep)
              (first
                | (go_at_call 20; refine (up_PA (W := wr.drew) (unhide HS).drew wr.heap.size rfl _ _ _ _ _ u1 u2 u3 k0 m0).mono ?_; rintro e w' ⟨rfl, ⟨z1, z2⟩, X1, X2, ⟨z3, z4⟩, ⟨z5, z6⟩, ⟨z7, z8⟩, ⟨z9, z0⟩, HB7⟩)
                | (go_at_call 20; refine (up_P (W := wr.drew) (unhide HS).drew _ _ _ _ _ u1 u2 u3 k0 m0).mono ?_; rintro e w' ⟨rfl, ⟨z1, z2⟩, HB7⟩))
            all_goals
              go_wp2_with fail
              go_meet
              case rel => first
                | exact ⟨_, rfl, rfl, putAll _ _ rfl, (below_undrew (unhide HB7)).alloc (below_undrew (unhide HB7)).size _⟩
                | exact ⟨_, rfl, rfl, (unhide HB7).1, below_undrew (unhide HB7).2⟩
          case rest =>
            obtain ⟨y, rfl, rfl, hy, b1⟩ := hcut
            obtain ⟨w5, hw5⟩ : ∃ x, x = wc := ⟨_, rfl⟩
            rw [← hw5] at hy b1 ⊢
            clear hw5
            have S5 := (unhide HS).below b1
            have L5 := (unhide HL).below b1
            have k5 := (World.cell?_of_block (b1.block g (lt_of_cell k0))).trans k0
            have m5 := (World.cell?_of_block (b1.block N (lt_of_cell m0))).trans m0
            have m6 := (World.cell?_of_block (b1.block A (lt_of_cell (unhide Hm1)))).trans (unhide Hm1)
            have m7 := (World.cell?_of_block (b1.block A (lt_of_cell (unhide Hm2)))).trans (unhide Hm2)
            obtain ⟨t1, t2, t3⟩ := unhide Hnot _ (xor_ne p.top)
            have HS5 := hide S5
            have HL5 := hide L5
            have Hm6 := hide m6
            have Hm7 := hide m7
            have Hy := hide hy
            clear HS HL Hm1 Hm2 hy b1 k0 m0 S5 L5 m6 m7 Hnot u1 u2 u3
            go_upto_region 22 with fail
            go_cut [16, 17] from 105 to 121 (fun s1 s2 wd => ∃ y2 : Nat, s1 = .pointer (some ⟨y2, 0, none⟩) ∧ s2 = .bool false ∧ wd.heap[y2]? = some (.cells #[I (j : Int), I (bits .xor .i64 p.top 1)] 29) ∧ Below w5.heap.size w5 wd)
            case first =>
              go_region_held3 (fun w' => w'.cell? ⟨g, i, none⟩ = some (I (j : Int)) ∧ w'.cell? ⟨N, j, none⟩ = some (I p.top)) (go_keep)
                (first
                  | (go_at_call 20; refine (up_PA (W := w5.drew) (unhide HS5).drew w5.heap.size rfl _ _ _ _ _ t1 t2 t3 k5 m5).mono ?_; rintro e w' ⟨rfl, ⟨z1, z2⟩, X1, X2, ⟨z3, z4⟩, ⟨z5, z6⟩, ⟨z7, z8⟩, ⟨z9, z0⟩, HB7⟩)
                  | (go_at_call 20; refine (up_P (W := w5.drew) (unhide HS5).drew _ _ _ _ _ t1 t2 t3 k5 m5).mono ?_; rintro e w' ⟨rfl, ⟨z1, z2⟩, HB7⟩))
              all_goals
                go_wp2_with fail
                go_meet
                case rel => first
                  | exact ⟨_, rfl, rfl, putAll _ _ rfl, (below_undrew (unhide HB7)).alloc (below_undrew (unhide HB7)).size _⟩
                  | exact ⟨_, rfl, rfl, (unhide HB7).1, below_undrew (unhide HB7).2⟩
            case rest =>
              obtain ⟨y2, rfl, rfl, hy2, b2⟩ := hcut
              obtain ⟨w6, hw6⟩ : ∃ x, x = wc := ⟨_, rfl⟩
              rw [← hw6] at hy2 b2 ⊢
              clear hw6
              have S6 := (unhide HS5).below b2
              have L6 := (unhide HL5).below b2
              have k6 := (World.cell?_of_block (b2.block g (lt_of_cell k5))).trans k5
              have p6 := (World.cell?_of_block (b2.block N (lt_of_cell m5))).trans m5
              have p7 := (World.cell?_of_block (b2.block A (lt_of_cell (unhide Hm6)))).trans (unhide Hm6)
              have p8 := (World.cell?_of_block (b2.block A (lt_of_cell (unhide Hm7)))).trans (unhide Hm7)
              obtain ⟨r0, r1⟩ := cells2 hy2
              obtain ⟨o0, o1⟩ := cells2 ((b2.block y (lt_of_heap (unhide Hy))).trans (unhide Hy))
              have HS6 := hide S6
              have HL6 := hide L6
              clear HS5 HL5 Hm6 Hm7 Hy hy2 b2 k5 m5 S6 L6 t1 t2 t3
              go_upto_region 23 with fail
              go_cut [148] from 122 to 147 (fun s wd => s = .bool false ∧ Below w6.heap.size w6 wd)
              case first =>
                go_region_held3 (fun w' => w'.cell? ⟨y, 0, none⟩ = some (I p.am) ∧ w'.cell? ⟨y, 1, none⟩ = some (I p.an) ∧ w'.cell? ⟨g, i, none⟩ = some (I (j : Int)) ∧ w'.cell? ⟨A, j * 2, none⟩ = some (I p.am) ∧ w'.cell? ⟨A, j * 2 + 1, none⟩ = some (I p.an) ∧ w'.cell? ⟨y2, 1, none⟩ = some (I (bits .xor .i64 p.top 1)) ∧ w'.cell? ⟨N, j, none⟩ = some (I p.top)) (go_keep) (fail)
                all_goals
                  go_wp2_with fail
                  go_meet
                  case rel => exact ⟨rfl, below_drew (Below.refl _ _)⟩
              case rest =>
                obtain ⟨rfl, b3⟩ := hcut
                have HS7 := hide ((unhide HS6).below b3)
                have HL7 := hide ((unhide HL6).below b3)
                clear HS6 HL6 b3 k6 p6 p7 p8 r0 r1 o0 o1
                go_wp2_with fail
                go_roundw
                case rel => exact ⟨i + 1, by go_num, by omega, unhide HS7, unhide HL7⟩
                case measure => simp [intOf]; omega
      · obtain rfl : i = n := by omega
        obtain ⟨p0, p1⟩ := cells2 S.s.p
        have pf0 := frozen_of S.s.p 0
        have D7 := S.set0
        obtain ⟨X, hX⟩ : ∃ X, wr.setCell ⟨h, 0, none⟩ (I 0) = X := ⟨_, rfl⟩
        rw [hX] at D7
        obtain ⟨d0, d1⟩ := cells2 D7.p
        obtain ⟨v1, v2, v3⟩ := up_zero S.s.q.wf pn
        have HUp := hide (up_R D7.q 0 pn _ _ _ v1 v2 v3)
        have HD7 := hide D7
        clear S hsl D7 v1 v2 v3 hin
        go_wp2_with fail
        refine (unhide HUp).mono ?_
        rintro e w8 ⟨rfl, -, b8⟩
        have D8 := ((unhide HD7).below b8).alloc (.cells #[I 0, I pn] 29)
        have hq8 : (w8.alloc (.cells #[I 0, I pn] 29)).heap[w8.heap.size]? = some (.cells #[I 0, I pn] 29) := putAll _ _ rfl
        obtain ⟨W8, hW8⟩ : ∃ W8, w8.alloc (.cells #[I 0, I pn] 29) = W8 := ⟨_, rfl⟩
        rw [hW8] at D8 hq8
        obtain ⟨s0, s1⟩ := cells2 hq8
        obtain ⟨s2, s3⟩ := cells2 D8.p
        have HD8 := hide D8
        clear b8 HD7 HUp D8 hq8 d0 d1 p0 p1 pf0 hX
        go_wp2_with fail
        refine (known_any W8).mono ?_
        rintro e w9 ⟨rfl, b9⟩
        have HB := hide ((unhide HD8).below b9).be
        clear b9 HD8
        go_wp2_with fail
        go_ret
        exact ⟨rfl, by rw [hh]; exact unhide HB⟩
end Go.Proofs.Ythmpplcaomgdoaa.Mt
