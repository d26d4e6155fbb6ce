/-
  FileLowest's walk: the descriptor that is given is the lowest that the process has not.
-/
import Derived.Test.YtocaonbmijmbmaaLowA
import Derived.Deep.CutRange
import Derived.Deep.CutBlock
namespace Go.Proofs.Ytocaonbmijmbmaa
open Go.RowKit Go.Shelf
attribute [local go_sem ↓] Go.wp_at_zero Go.wp_at_succ

/-- Close, told by the law's own word. -/
theorem close_L {B b g : Nat} {w W : World} {es : List Op} {G : Nat → Bool} (h : LW B b g w W es G) (p d : Int) :
    Calls Try.prog 9 #[.pointer (some ⟨b, 0, none⟩), I p, I d] W fun e w' => e = .returned (.tuple #[Op.pv (getV es p d), I (findE es p d)]) ∧ Hid (LM B b g w w' es (closeL es p d) G) := by
  refine (close_any b 64 es p d W h.tb).mono ?_
  rintro e w' ⟨e1, h1, h2⟩
  exact ⟨e1, h.call h1 h2 (h.wf.close p d)⟩
theorem open_L {B b g : Nat} {w W : World} {es : List Op} {G : Nat → Bool} (h : LW B b g w W es G) (p m k f : Int) {A E : Int} (hA : openA es 64 p = A) (hE : roomE es 64 p = E) {c : Nat} {o1 o2 o3 : Nat} {v1 v2 v3 : Value} (hc : c < B) (c1 : W.cell? ⟨c, o1, none⟩ = some v1) (c2 : W.cell? ⟨c, o2, none⟩ = some v2) (c3 : W.cell? ⟨c, o3, none⟩ = some v3) :
    Calls Try.prog 8 #[.pointer (some ⟨b, 0, none⟩), I p, .agg #[I m, I k], I f] W fun e w' => e = .returned (.tuple #[I A, I E]) ∧ (w'.cell? ⟨c, o1, none⟩ = some v1 ∧ w'.cell? ⟨c, o2, none⟩ = some v2 ∧ w'.cell? ⟨c, o3, none⟩ = some v3) ∧ Hid (LM B b g w w' es (openL es 64 p m k f) G) := by
  subst hA hE
  refine (openc_any b 64 es p m k f W h.tb).mono ?_
  rintro e w' ⟨e1, h1, h2⟩
  have hb := h2.block c (by have := h.sz; omega) (by have := h.lo; omega)
  exact ⟨e1, ⟨(World.cell?_of_block hb).trans c1, (World.cell?_of_block hb).trans c2, (World.cell?_of_block hb).trans c3⟩, h.call h1 h2 (h.wf.open h.tb.c64)⟩
theorem getO_open' {es : List Op} {p : Nat} {m k f : Int} (h64 : es.length ≤ 64) (he : roomE es 64 (p : Int) = 0) (p' d' : Int) : (getO (openL es 64 (p : Int) m k f) p' d').isSome = if p' = p ∧ d' = ((low es (p : Int) : Nat) : Int) then true else (getO es p' d').isSome := by
  rw [getO_open h64 he]
  split <;> rfl
theorem getO_close' {es : List Op} (h : Wf es) {p d : Int} (he : findE es p d = 0) (p' d' : Int) : (getO (closeL es p d) p' d').isSome = if p' = p ∧ d' = d then false else (getO es p' d').isSome := by
  rw [getO_close h he]
  split <;> rfl

theorem getO_rng' {es : List Op} (hw : Wf es) {p d : Int} (hd : d < 0 ∨ 8 ≤ d) : getO es p d = none := by
  rw [getO_none]
  rintro o ho ⟨_, e2⟩
  have := (hw.rng o ho).2
  omega
theorem min64 : IntKind.i64.min = -9223372036854775808 := by decide
theorem kl_bd {p : Int} (h : (kl p).wf = true) : -9223372036854775808 ≤ p ∧ p ≤ 9223372036854775807 := by
  simp [Lit.wf, min64] at h; exact h

set_option maxRecDepth 100000 in
set_option maxHeartbeats 4000000 in
theorem lowest_walk (pa : Option Addr) (len cap : Nat) (w : World) (ha : AsksAt w pa len) :
    Calls Try.prog 5 #[.slice pa len cap] w fun e w' => e = .returned (.bool true) ∧ Below w.heap.size w w' := by
  have hlen : (len : Int) ≤ 9223372036854775807 := by have := ha.1; omega
  have HA := hide ha
  have HK := hide (fun W => known_true W)
  have hz := zero56
  clear ha
  go_enter Try.func5, Try.ntmps5
  go_wp2_with fail
  refine (new_good 64 (by omega) (by omega) w).mono ?_
  rintro e w1 ⟨rfl, hT1, hB1⟩
  have hB2 := (Below.refl _ w1).alloc (Nat.le_refl _) (.cells (bc fun _ => false) 56)
  have HS : Hid (LW w.heap.size w.heap.size w1.heap.size w (w1.alloc (.cells (bc fun _ => false) 56)) [] (fun _ => false)) :=
    ⟨hT1.below hB2, putAll _ _ rfl, Wf.nil, hB1.trans (hB2.mono hB1.size), ⟨Nat.le_refl _, hB1.size⟩, fun _ _ _ _ => rfl⟩
  clear hT1 hB1 hB2
  generalize hZ : bc (fun _ => false) = Z at *
  clear hZ
  go_upto_block 0 with fail
  generalize hh : w.heap.size = h at *
  generalize w1.heap.size = g at *
  generalize w1.alloc (.cells Z 56) = V at *
  clear hz
  go_cut [] from 6 to 157 (fun wc => ∃ es G, LW h h g w wc es G)
  case first =>
    go_wp2_with fail
    go_loopw [6] (fun v wr => ∃ (k : Nat) (es : List Op) (G : Nat → Bool), v = I k ∧ k ≤ 200 ∧ k ≤ len ∧ LW h h g w wr es G) (fun v _ => 200 - (intOf v).toNat)
    case atStart => exact ⟨0, _, _, rfl, by omega, by omega, unhide HS⟩
    case round =>
      clear HS
      obtain ⟨k, es, G, rfl, hk, hkl, S⟩ := hrel
      by_cases hc : k < len ∧ k < 200
      · obtain ⟨b, off, kd, p, d, f, s, m, nd, rfl, hb, A⟩ := (unhide HA).2 k hc.1
        rw [hh] at hb
        have j1 : (k : Int) < (len : Int) := by omega
        have j2 : (k : Int) < 200 := by omega
        have j0 : (0 : Int) ≤ (k : Int) := by omega
        have A1 := A.below hb S.be
        have c0 := A1.c0
        have c1 := A1.c1
        have wp := A1.w1
        have hpb : -9223372036854775808 ≤ p ∧ p ≤ 9223372036854775807 := kl_bd wp
        have HA1 := hide A
        have HS := hide S
        clear A A1 S hc wp
        go_upto_if 41 with fail
        go_cut [7] from 42 to 44 (fun v wc => wc = wr ∧ ∃ q : Nat, v = I q)
        case first =>
          by_cases hp0 : p < 0
          · have l1 : -9223372036854775808 ≤ p := hpb.1
            go_wp2_with fail
            go_meet
            case rel => exact ⟨rfl, (-(p + 1)).toNat, by rw [Int.toNat_of_nonneg (by omega)]⟩
          · go_wp2_with fail
            go_meet
            case rel => exact ⟨rfl, p.toNat, by rw [Int.toNat_of_nonneg (by omega)]⟩
        case rest =>
        obtain ⟨rfl, q, rfl⟩ := hcut
        have hm : ((q : Nat) : Int).tmod 8 = ((q % 8 : Nat) : Int) := by rw [Int.tmod_eq_emod_of_nonneg (by omega)]; omega
        have hq8 : q % 8 < 8 := by omega
        generalize q % 8 = x at *
        clear hpb c1
        have A1 := (unhide HA1).below hb (unhide HS).be
        have c2 := A1.c2
        have c3 := A1.c3
        have c5 := A1.c5
        have c6 := A1.c6
        clear A1
        have x1 : (x : Int) < 8 := by omega
        have x0 : (0 : Int) ≤ (x : Int) := by omega
        have hP : isP (x : Int) = true := isP_iff.2 (by omega)
        by_cases t0 : kd.tmod 2 = 0
        · clear c3 c5 c6
          have HC := hide (close_L (unhide HS) (x : Int) d)
          unfold Op.pv at HC
          obtain ⟨y1, hy1⟩ : ∃ y, (getV es (x : Int) d).m = y := ⟨_, rfl⟩
          obtain ⟨y2, hy2⟩ : ∃ y, (getV es (x : Int) d).n = y := ⟨_, rfl⟩
          rw [hy1, hy2] at HC
          clear hy1 hy2
          have hfe := findE_eq es (x : Int) d
          rw [if_pos hP] at hfe
          by_cases hd0 : d < 0
          · rw [getO_rng' (unhide HS).wf (.inl hd0)] at hfe
            have hfe' : findE es (x : Int) d = 33 := hfe
            have hce := close_none (es := es) (p := (x : Int)) (d := d) (by rw [hfe']; decide)
            rw [hfe'] at HC
            have HCE := hide hce
            have g1 : (0 ≤ d) = False := by simp; omega
            clear hfe hfe' hce hd0
            go_wp2_with fail
            refine (unhide HC).mono ?_
            rintro e w3 ⟨rfl, HM⟩
            obtain ⟨U, hU, hu, hBU, hsU⟩ := place2 w3 y1 y2 29
            have M := (unhide HM).below hBU
            have c2' := ((unhide HA1).below hb M.be).c2
            have HMU := hide M
            clear c0 c2 M hu hBU hsU HM HC
            go_wp2_with fail
            go_quiet (fail)
            have HE := hide (((unhide HMU).below (below_dn (Below.refl _ _) nq)).same (unhide HCE))
            go_wp2_with fail
            go_roundw
            case rel => exact ⟨k + 1, _, _, by go_num, by omega, by omega, unhide HE⟩
            case measure => simp [intOf]; omega
          · by_cases hd8 : 8 ≤ d
            · rw [getO_rng' (unhide HS).wf (.inr hd8)] at hfe
              have hfe' : findE es (x : Int) d = 33 := hfe
              have hce := close_none (es := es) (p := (x : Int)) (d := d) (by rw [hfe']; decide)
              rw [hfe'] at HC
              have HCE := hide hce
              have g0 : 0 ≤ d := by omega
              have g1 : (d < 8) = False := by simp; omega
              clear hfe hfe' hce hd0 hd8
              go_wp2_with fail
              refine (unhide HC).mono ?_
              rintro e w3 ⟨rfl, HM⟩
              obtain ⟨U, hU, hu, hBU, hsU⟩ := place2 w3 y1 y2 29
              have M := (unhide HM).below hBU
              have c2' := ((unhide HA1).below hb M.be).c2
              have HMU := hide M
              clear c0 c2 M hu hBU hsU HM HC
              go_wp2_with fail
              go_quiet (fail)
              have HE := hide (((unhide HMU).below (below_dn (Below.refl _ _) nq)).same (unhide HCE))
              go_wp2_with fail
              go_roundw
              case rel => exact ⟨k + 1, _, _, by go_num, by omega, by omega, unhide HE⟩
              case measure => simp [intOf]; omega
            · obtain ⟨z, rfl⟩ : ∃ z : Nat, d = z := ⟨d.toNat, by omega⟩
              have hz8 : z < 8 := by omega
              have z1 : (z : Int) < 8 := by omega
              have z0 : (0 : Int) ≤ (z : Int) := by omega
              have z2 : (8 ≤ z) = False := by simp; omega
              clear hd0 hd8
              cases hg : (getO es (x : Int) (z : Int)).isSome
              · rw [hg] at hfe
                have hfe' : findE es (x : Int) (z : Int) = 33 := hfe
                have hce := close_none (es := es) (p := (x : Int)) (d := (z : Int)) (by rw [hfe']; decide)
                rw [hfe'] at HC
                have HCE := hide hce
                clear hfe hfe' hce
                go_wp2_with fail
                refine (unhide HC).mono ?_
                rintro e w3 ⟨rfl, HM⟩
                obtain ⟨U, hU, hu, hBU, hsU⟩ := place2 w3 y1 y2 29
                have M := (unhide HM).below hBU
                have c2' := ((unhide HA1).below hb M.be).c2
                have cb := M.bb hq8 hz8
                rw [hg] at cb
                have HMU := hide M
                clear c0 c2 M hu hBU hsU HM HC hg
                go_wp2_with fail
                go_quiet (fail)
                have HE := hide (((unhide HMU).below (below_dn (Below.refl _ _) nq)).same (unhide HCE))
                go_wp2_with fail
                go_roundw
                case rel => exact ⟨k + 1, _, _, by go_num, by omega, by omega, unhide HE⟩
                case measure => simp [intOf]; omega
              · rw [hg] at hfe
                have hfe' : findE es (x : Int) (z : Int) = 0 := hfe
                have HGC := hide (fun p' d' => getO_close' (unhide HS).wf hfe' p' d')
                rw [hfe'] at HC
                clear hfe hfe'
                go_wp2_with fail
                refine (unhide HC).mono ?_
                rintro e w3 ⟨rfl, HM⟩
                obtain ⟨U, hU, hu, hBU, hsU⟩ := place2 w3 y1 y2 29
                have M := (unhide HM).below hBU
                have c2' := ((unhide HA1).below hb M.be).c2
                have cb := M.bb hq8 hz8
                rw [hg] at cb
                have HMU := hide M
                clear c0 c2 M hu hBU hsU HM HC
                go_wp2_with fail
                go_quiet (fail)
                have M2 := (unhide HMU).below (below_dn (Below.refl _ _) nq)
                generalize U.drewN nq = U2 at *
                obtain ⟨X, hX, hXf, hXl⟩ := M2.put (p := x) (k := z) false (unhide HGC) hz8
                have c2'' := ((unhide HA1).below hb M2.be).c2
                have cb2 := M2.bb hq8 hz8
                rw [hg] at cb2
                have HX : Hid (LW h h g w X.drew (closeL es (x : Int) (z : Int)) (upb G (x * 8 + z) false)) := hXl.drew
                clear M2 hXl HMU cb c2' hg hU
                go_wp2_with fail
                go_region
                all_goals go_wp2_with fail
                all_goals go_roundw
                case rel => exact ⟨k + 1, _, _, by go_num, by omega, by omega, unhide HX⟩
                case measure => simp [intOf]; omega
        · have t1 : (kd.tmod 2 == 0) = false := by simp [t0]
          have h64 := (unhide HS).tb.c64
          have hwf := (unhide HS).wf
          have hrf := room_full hwf hq8
          have hlow := low_spec (es := es) (x : Int) h64
          have HGO := hide (fun (he : roomE es 64 (x : Int) = 0) p' d' => getO_open' (m := m) (k := nd) (f := f) h64 he p' d')
          obtain ⟨aa, haa⟩ : ∃ aa, openA es 64 (x : Int) = aa := ⟨_, rfl⟩
          obtain ⟨er, her⟩ : ∃ er, roomE es 64 (x : Int) = er := ⟨_, rfl⟩
          have HAA := hide haa
          have HER := hide her
          have HRF := hide hrf
          have HLO := hide hlow
          clear haa her hrf hlow hwf
          go_upto_region 19 with fail
          go_cut [11, 12] from 103 to 118 (fun s1 s2 wd => s1 = I aa ∧ s2 = I er ∧ LM h h g w wd es (openL es 64 (x : Int) m nd f) G)
          case first =>
            go_region_held3 (fun w' => w'.cell? ⟨b, off + k * 7 + 3, none⟩ = some (I f) ∧ w'.cell? ⟨b, off + k * 7 + 5, none⟩ = some (I m) ∧ w'.cell? ⟨b, off + k * 7 + 6, none⟩ = some (I nd)) (go_keep)
              ((go_at_call 8; refine (open_L (unhide HS).drew (x : Int) m nd f (unhide HAA) (unhide HER) hb c3 c5 c6).mono ?_; rintro e w3 ⟨rfl, ⟨e3, e5, e6⟩, HM⟩))
            all_goals
              go_wp2_with fail
              go_meet
              case rel => exact ⟨rfl, rfl, unhide HM⟩
          case rest =>
            obtain ⟨rfl, rfl, M⟩ := hcut
            have HM := hide M
            clear M c0 c2 c3 c5 c6 HS
            obtain ⟨W, hW⟩ : ∃ W, W = wc := ⟨_, rfl⟩
            rw [← hW] at HM ⊢
            clear hW
            go_wp2_with fail
            go_loopw [13, 14] (fun v i wr => wr = W ∧ ∃ j : Nat, j ≤ 8 ∧ i = I ((j : Int) - 1) ∧ ((v = I (-1) ∧ ∀ q : Nat, j ≤ q → q < 8 → (getO es (x : Int) (q : Int)).isSome = true) ∨
              ∃ q : Nat, v = I q ∧ j ≤ q ∧ q < 8 ∧ (getO es (x : Int) (q : Int)).isSome = false ∧ ∀ t : Nat, j ≤ t → t < q → (getO es (x : Int) (t : Int)).isSome = true)) (fun _ i _ => (intOf i + 1).toNat)
            case atStart => exact ⟨rfl, 8, by omega, rfl, .inl ⟨rfl, fun q h1 h2 => by omega⟩⟩
            case round =>
              obtain ⟨rfl, j, hj, rfl, hv⟩ := hrel
              cases j with
              | zero =>
                rcases hv with ⟨rfl, hall⟩ | ⟨q, rfl, -, hq, hno, hall⟩
                · have hro : er = 41 := by
                    rcases unhide HRF with ⟨h1, h2⟩ | ⟨h1, h2⟩
                    · have := (unhide HLO).2.1
                      rw [getO_used, hall _ (Nat.zero_le _) h2] at this
                      cases this
                    · rw [← unhide HER]; exact h1
                  subst hro
                  have hoe := open_none (es := es) (n := 64) (p := (x : Int)) (m := m) (k := nd) (f := f) (by rw [unhide HER]; decide)
                  have HE := hide ((unhide HM).same hoe)
                  clear hall hoe HRF HLO HGO HAA HER HM
                  go_wp2_with fail
                  go_roundw
                  case rel => exact ⟨k + 1, _, _, by go_num, by omega, by omega, unhide HE⟩
                  case measure => simp [intOf]; omega
                · have hL : low es (x : Int) = q := low_eq h64 (fun t ht => by rw [getO_used]; exact hall t (Nat.zero_le _) ht) (by rw [getO_used]; exact hno)
                  have hro : er = 0 := by
                    rcases unhide HRF with ⟨h1, h2⟩ | ⟨h1, h2⟩
                    · rw [← unhide HER]; exact h1
                    · rw [h2 q hq] at hno; cases hno
                  subst hro
                  have haa : aa = q := by rw [← unhide HAA, ← hL]; unfold openA; rw [if_pos (unhide HER)]
                  subst haa
                  have hgo := unhide HGO (unhide HER)
                  rw [hL] at hgo
                  have q1 : (q : Int) < 8 := by omega
                  have q0 : (0 : Int) ≤ (q : Int) := by omega
                  have cb := (unhide HM).bb hq8 hq
                  rw [hno] at cb
                  obtain ⟨X, hX, hXf, hXl⟩ := (unhide HM).put (p := x) (k := q) true hgo hq
                  have HX := hide hXl
                  clear hall hno hgo hXl hL HRF HLO HGO HAA HER HM
                  go_wp2_with fail
                  go_roundw
                  case rel => exact ⟨k + 1, _, _, by go_num, by omega, by omega, unhide HX⟩
                  case measure => simp [intOf]; omega
              | succ i =>
                have ei : ((i + 1 : Nat) : Int) - 1 = (i : Int) := by omega
                rw [ei]
                have i1 : (i : Int) < 8 := by omega
                have i0 : (0 : Int) ≤ (i : Int) := by omega
                have cb := (unhide HM).bb hq8 (k := i) (by omega)
                cases hg : (getO es (x : Int) (i : Int)).isSome
                · rw [hg] at cb
                  have HV := hide hv
                  have HGG := hide hg
                  clear hv hg ei
                  go_wp2_with fail
                  go_roundw
                  case rel => exact ⟨trivial, i, by omega, by go_num, .inr ⟨i, rfl, Nat.le_refl _, by omega, unhide HGG, fun t h1 h2 => by omega⟩⟩
                  case measure => simp [intOf]
                · rw [hg] at cb
                  have HGG := hide hg
                  clear hg ei
                  rcases hv with ⟨rfl, hall⟩ | ⟨q, rfl, hqi, hq, hno, hall⟩
                  · have HV := hide hall
                    clear hall
                    go_wp2_with fail
                    go_roundw
                    case rel =>
                      refine ⟨trivial, i, by omega, by go_num, .inl ⟨rfl, fun q h1 h2 => ?_⟩⟩
                      by_cases e : q = i
                      · subst e; exact unhide HGG
                      · exact unhide HV q (by omega) h2
                    case measure => simp [intOf]
                  · have HV := hide (And.intro hno hall)
                    clear hno hall
                    go_wp2_with fail
                    go_roundw
                    case rel =>
                      refine ⟨trivial, i, by omega, by go_num, .inr ⟨q, rfl, by omega, hq, (unhide HV).1, fun t h1 h2 => ?_⟩⟩
                      by_cases e : t = i
                      · subst e; exact unhide HGG
                      · exact (unhide HV).2 t (by omega) h2
                    case measure => simp [intOf]
      · have HS := hide S
        clear S
        by_cases hkl2 : k < len
        · obtain rfl : k = 200 := by omega
          have j1 : (200 : Int) < (len : Int) := by omega
          clear hc
          go_wp2_with fail
          go_meet
          case rel => exact ⟨_, _, unhide HS⟩
        · obtain rfl : k = len := by omega
          clear hc
          go_wp2_with fail
          go_meet
          case rel => exact ⟨_, _, unhide HS⟩
  case rest =>
  obtain ⟨es, G, S⟩ := hcut
  have HE := hide S.be
  have hsz := S.sz
  clear S HS
  go_wp2_with fail
  refine (unhide HK wc).mono ?_
  rintro e v3 ⟨rfl, hB3⟩
  have HF := hide ((unhide HE).trans (hB3.mono hsz))
  clear hB3 HE
  go_wp2_with fail
  go_ret
  exact ⟨rfl, by rw [hh]; exact unhide HF⟩
end Go.Proofs.Ytocaonbmijmbmaa
