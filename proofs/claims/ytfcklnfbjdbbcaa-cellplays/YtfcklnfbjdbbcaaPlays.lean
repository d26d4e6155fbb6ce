/-
  CellPlays: a memory answers, counts and tells as the document says, for any accesses. No conditions.
-/
import Derived.Test.YtfcklnfbjdbbcaaSame
import Derived.OpenShut
import Derived.ShutString
import Derived.ChangeOld
namespace Go.Proofs.Ytfcklnfbjdbbcaa.cellPlays
open Go.ChangeShapes Go.WideShapes Go.ChangeAt Go.RowKit
attribute [local go_sem ↓] Go.wp_at_zero Go.wp_at_succ

theorem own : ownKnob Try.prog.godebug = none := by kernel_rfl
theorem laidOut : laidOutB Try.prog = true := by kernel_rfl

set_option maxRecDepth 100000 in
set_option maxHeartbeats 400000 in
theorem walk_no (a0 : Int) (a1 : Option Addr) (len1 cap1 : Nat) (w : World) (h : a0 < 1 ∨ 64 < a0) :
    Calls Try.prog 4 #[.int .i64 a0, .slice a1 len1 cap1] w fun e w' => e = .returned (.bool true) ∧ Below w.heap.size w w' := by
  have hx : a0 < 1 ∨ (¬ a0 < 1 ∧ 64 < a0) := by omega
  have HX := hide h
  clear h
  rcases hx with hx | ⟨hx, hy⟩
  all_goals
    go_enter Try.func4, Try.ntmps4
    go_wp2_with fail
    refine (new_no a0 (unhide HX) _).mono ?_
    rintro e w1 ⟨rfl, rfl⟩
    go_wp2_with fail
    refine (known_true _).mono ?_
    rintro e w2 ⟨rfl, hB⟩
    go_wp2
    go_ret
    exact ⟨rfl, hB⟩

set_option maxRecDepth 100000 in
set_option maxHeartbeats 2000000 in
theorem walk_yes (n : Nat) (a1 : Option Addr) (len1 cap1 : Nat) (w : World) (n1 : 1 ≤ n) (n64 : n ≤ 64) (w1 : Asks w a1 len1) :
    Calls Try.prog 4 #[.int .i64 (n : Int), .slice a1 len1 cap1] w fun e w' => e = .returned (.bool true) ∧ Below w.heap.size w w' := by
  obtain ⟨hml, hrow⟩ := w1
  unfold maxLen at hml
  have HR := hide hrow
  clear hrow
  have q1 : decide ((n : Int) < 1) = false := by simp; omega
  have q2 : decide ((64 : Int) < (n : Int)) = false := by simp; omega
  go_enter Try.func4, Try.ntmps4
  go_wp2_with fail
  refine (new_yes n n1 n64 _).mono ?_
  rintro e w2 ⟨rfl, hM2, hB2⟩
  go_wp2_with fail
  refine (rnew_yes n n1 n64 _).mono ?_
  rintro e w3 ⟨rfl, hR3, hB3⟩
  have hM3 := hM2.below hB3
  have gb := hM2.blt
  have B3 : Below w.heap.size w w3 := hB2.trans (hB3.mono (by omega))
  generalize w2.heap.size = g at hR3 gb ⊢
  generalize hh : w.heap.size = h at *
  have Hh := hide hh
  clear hh hM2 hB2 hB3
  go_wp2_with fail
  go_loopw [8] (fun i wr => ∃ (k : Nat) (ws : List Int) (st kk aa oo vv : Int) (dd : Bool), k ≤ len1 ∧ k ≤ 200 ∧ i = .int .i64 k ∧ 0 ≤ st ∧ st ≤ k ∧ Mem wr (h + 1) h n ws st kk aa oo vv dd ∧
    RMem wr (g + 1) g n ws st kk aa oo vv dd ∧ Below h w wr) (fun i _ => 200 - (intOf i).toNat)
  case atStart => exact ⟨0, _, 0, 0, 0, 0, 0, false, by omega, by omega, rfl, by omega, by omega, hM3, hR3, B3⟩
  case round =>
    obtain ⟨k, ws, st, kk, aa, oo, vv, dd, hk1, hk2, rfl, s0, s1, hMr, hRr, hBr⟩ := hrel
    clear hM3 hR3 B3
    by_cases hin : k < len1 ∧ k < 200
    · obtain ⟨h1, h2⟩ := hin
      have j1 : (k : Int) < (len1 : Int) := by omega
      have j2 : (k : Int) < 200 := by omega
      obtain ⟨b, off, kd, at_, o, nx, rfl, hbl, c0, c1, c2, c3⟩ := unhide HR k h1
      replace c0 := (hBr.cell (p := ⟨b, off + k * 4, none⟩) hbl).trans c0
      replace c1 := (hBr.cell (p := ⟨b, off + k * 4 + 1, none⟩) hbl).trans c1
      replace c2 := (hBr.cell (p := ⟨b, off + k * 4 + 2, none⟩) hbl).trans c2
      replace c3 := (hBr.cell (p := ⟨b, off + k * 4 + 3, none⟩) hbl).trans c3
      by_cases hk1' : kd = 1
      · subst hk1'
        go_wp2_with fail
        have hX := putAll (w := wr) (.cells #[.int .i64 1, .int .i64 at_, .int .i64 o, .int .i64 nx] 42) wr.heap.size rfl
        have hM4 := hMr.alloc (.cells #[.int .i64 1, .int .i64 at_, .int .i64 o, .int .i64 nx] 42)
        have hR4 := hRr.below ((Below.refl _ wr).alloc (Nat.le_refl _) (.cells #[.int .i64 1, .int .i64 at_, .int .i64 o, .int .i64 nx] 42))
        have B4 := hBr.alloc (by have := hMr.blt; omega) (.cells #[.int .i64 1, .int .i64 at_, .int .i64 o, .int .i64 nx] 42)
        have xg := hRr.blt
        clear hMr hRr hBr c0 c1 c2 c3
        generalize wr.alloc (.cells #[.int .i64 1, .int .i64 at_, .int .i64 o, .int .i64 nx] 42) = w4 at hX hM4 hR4 B4 ⊢
        generalize wr.heap.size = y at hX xg ⊢
        have HX := hide hX
        have yl : y < w4.heap.size := (Array.getElem?_eq_some_iff.1 hX).1
        clear hX
        by_cases hr : 0 ≤ at_ ∧ at_ < n
        · obtain ⟨r0, r1⟩ := hr
          obtain ⟨an, rfl⟩ := Int.eq_ofNat_of_zero_le r0
          have an1 : an < n := by omega
          obtain ⟨held, hheld⟩ : ∃ held, ws.getD an 0 = held := ⟨_, rfl⟩
          have HE := hide hheld
          clear hheld
          refine (load_h (h + 1) h n an ws st kk aa oo vv dd _ hM4 an1 s0 (by omega) held (unhide HE)).mono ?_
          rintro e w5 ⟨rfl, hM5, hF5⟩
          have hR5 := hR4.frm hF5 (by omega) (by omega) (by omega) (by omega)
          have z5 := hF5.size
          have zc := hM4.clt
          have hX5 := (hF5.block y yl (by omega) (by omega)).trans (unhide HX)
          have B5 : Below h w w5 := B4.trans (hF5.below (by omega) (by omega) (by omega))
          have x1 : w5.cell? ⟨y, 1, none⟩ = some (.int .i64 an) := by rw [cell_of hX5]; rfl
          have x2 : w5.cell? ⟨y, 2, none⟩ = some (.int .i64 o) := by rw [cell_of hX5]; rfl
          have x3 : w5.cell? ⟨y, 3, none⟩ = some (.int .i64 nx) := by rw [cell_of hX5]; rfl
          clear hX5 HX hF5 hM4 hR4 B4
          go_wp2_with fail
          refine (do1_h (g + 1) g n an ws st kk aa oo vv dd 0 0 _ hR5 an1 s0 (by omega) held (unhide HE)).mono ?_
          rintro e w6 ⟨rfl, hR6, hF6⟩
          have hM6 := hM5.frm hF6 (by omega) (by omega) (by omega) (by omega)
          have z6 := hF6.size
          have B6 : Below h w w6 := B5.trans (hF6.below (by omega) (by omega) (by omega))
          clear hF6 hM5 hR5 B5 x1 x2 x3
          go_wp2_with fail
          refine (last_any _ _ _ _ _ _ _ _ _ _ _ hM6).mono ?_
          rintro e w7 ⟨rfl, hB7⟩
          have hM7 := hM6.below hB7
          have hR7 := hR6.below hB7
          have B7 : Below h w w7 := B6.trans (hB7.mono (by have := hM6.blt; omega))
          clear hB7 hM6 hR6 B6
          go_wp2_with fail
          have hA8 := putAll (w := w7) (.cells #[.int .i64 1, .int .i64 an, .int .i64 held, .int .i64 held, .bool true] 27) w7.heap.size rfl
          have B8w := (Below.refl _ w7).alloc (Nat.le_refl _) (.cells #[.int .i64 1, .int .i64 an, .int .i64 held, .int .i64 held, .bool true] 27)
          have hM8 := hM7.below B8w
          have hR8 := hR7.below B8w
          have B8 : Below h w _ := B7.trans (B8w.mono (by have := hM7.blt; omega))
          clear hM7 hR7 B7 B8w
          generalize w7.alloc (.cells #[.int .i64 1, .int .i64 an, .int .i64 held, .int .i64 held, .bool true] 27) = w8 at hA8 hM8 hR8 B8 ⊢
          generalize w7.heap.size = a8 at hA8 ⊢
          obtain ⟨y0, y1, y2, y3, y4, y5, y6, yf⟩ := hR8.cells
          obtain ⟨z0, z1, z2, z3, z4, zf⟩ := accCells hA8
          clear y0 yf zf hA8
          have hst : ∀ m, Calls Try.prog 10 #[.pointer (some ⟨h + 1, 0, none⟩)] (w8.drewN m) fun e w' => e = .returned (.int .i64 (st + 1)) ∧ w' = w8.drewN m := fun m => steps_any _ _ _ _ _ _ _ _ _ _ _ (hM8.of rfl rfl)
          have HST := hide hst
          clear hst
          go_quiet ((go_at_call 10; exact Calls.quiet_of_same (unhide HST _)))
          go_wp2
          go_roundw
          case rel => exact ⟨k + 1, ws, st + 1, _, _, _, _, _, by omega, by omega, by go_num, by omega, by omega, hM8.of rfl rfl, hR8.of rfl rfl, below_dn B8 nq⟩
          case measure => simp [intOf]; omega
        · have hr2 : at_ < 0 ∨ (n : Int) ≤ at_ := by omega
          have HA := hide hr2
          clear hr2 hr
          refine (load_no _ _ n at_ _ hM4.cells.1 (unhide HA)).mono ?_
          rintro e w5 ⟨rfl, hB5⟩
          have hM5 := hM4.below hB5
          have hR5 := hR4.below hB5
          have hX5 := (hB5.block y yl).trans (unhide HX)
          have zc := hM4.clt
          have B5 : Below h w w5 := B4.trans (hB5.mono (by omega))
          have x1 : w5.cell? ⟨y, 1, none⟩ = some (.int .i64 at_) := by rw [cell_of hX5]; rfl
          have x2 : w5.cell? ⟨y, 2, none⟩ = some (.int .i64 o) := by rw [cell_of hX5]; rfl
          have x3 : w5.cell? ⟨y, 3, none⟩ = some (.int .i64 nx) := by rw [cell_of hX5]; rfl
          clear hX5 HX hB5 hM4 hR4 B4
          go_wp2_with fail
          refine (do_no _ _ n 1 at_ 0 0 _ hR5.cells.1 (unhide HA)).mono ?_
          rintro e w6 ⟨rfl, rfl⟩
          have hM6 := hM5
          have hR6 := hR5
          have B6 := B5
          clear hM5 hR5 B5 x1 x2 x3
          go_wp2_with fail
          refine (last_any _ _ _ _ _ _ _ _ _ _ _ hM6).mono ?_
          rintro e w7 ⟨rfl, hB7⟩
          have hM7 := hM6.below hB7
          have hR7 := hR6.below hB7
          have B7 : Below h w w7 := B6.trans (hB7.mono (by have := hM6.blt; omega))
          clear hB7 hM6 hR6 B6
          go_wp2_with fail
          have hA8 := putAll (w := w7) (.cells #[.int .i64 kk, .int .i64 aa, .int .i64 oo, .int .i64 vv, .bool dd] 27) w7.heap.size rfl
          have B8w := (Below.refl _ w7).alloc (Nat.le_refl _) (.cells #[.int .i64 kk, .int .i64 aa, .int .i64 oo, .int .i64 vv, .bool dd] 27)
          have hM8 := hM7.below B8w
          have hR8 := hR7.below B8w
          have B8 : Below h w _ := B7.trans (B8w.mono (by have := hM7.blt; omega))
          clear hM7 hR7 B7 B8w
          generalize w7.alloc (.cells #[.int .i64 kk, .int .i64 aa, .int .i64 oo, .int .i64 vv, .bool dd] 27) = w8 at hA8 hM8 hR8 B8 ⊢
          generalize w7.heap.size = a8 at hA8 ⊢
          obtain ⟨y0, y1, y2, y3, y4, y5, y6, yf⟩ := hR8.cells
          obtain ⟨z0, z1, z2, z3, z4, zf⟩ := accCells hA8
          clear y0 yf zf hA8
          have hst : ∀ m, Calls Try.prog 10 #[.pointer (some ⟨h + 1, 0, none⟩)] (w8.drewN m) fun e w' => e = .returned (.int .i64 (st)) ∧ w' = w8.drewN m := fun m => steps_any _ _ _ _ _ _ _ _ _ _ _ (hM8.of rfl rfl)
          have HST := hide hst
          clear hst
          go_quiet ((go_at_call 10; exact Calls.quiet_of_same (unhide HST _)))
          go_wp2
          go_roundw
          case rel => exact ⟨k + 1, ws, st, _, _, _, _, _, by omega, by omega, by go_num, by omega, by omega, hM8.of rfl rfl, hR8.of rfl rfl, below_dn B8 nq⟩
          case measure => simp [intOf]; omega
      · have t1 : (kd == 1) = false := by simp [hk1']
        clear hk1'
        by_cases hk2' : kd = 2
        · subst hk2'
          go_wp2_with fail
          have hX := putAll (w := wr) (.cells #[.int .i64 2, .int .i64 at_, .int .i64 o, .int .i64 nx] 42) wr.heap.size rfl
          have hM4 := hMr.alloc (.cells #[.int .i64 2, .int .i64 at_, .int .i64 o, .int .i64 nx] 42)
          have hR4 := hRr.below ((Below.refl _ wr).alloc (Nat.le_refl _) (.cells #[.int .i64 2, .int .i64 at_, .int .i64 o, .int .i64 nx] 42))
          have B4 := hBr.alloc (by have := hMr.blt; omega) (.cells #[.int .i64 2, .int .i64 at_, .int .i64 o, .int .i64 nx] 42)
          have xg := hRr.blt
          clear hMr hRr hBr c0 c1 c2 c3
          generalize wr.alloc (.cells #[.int .i64 2, .int .i64 at_, .int .i64 o, .int .i64 nx] 42) = w4 at hX hM4 hR4 B4 ⊢
          generalize wr.heap.size = y at hX xg ⊢
          have HX := hide hX
          have yl : y < w4.heap.size := (Array.getElem?_eq_some_iff.1 hX).1
          clear hX
          by_cases hr : 0 ≤ at_ ∧ at_ < n
          · obtain ⟨r0, r1⟩ := hr
            obtain ⟨an, rfl⟩ := Int.eq_ofNat_of_zero_le r0
            have an1 : an < n := by omega
            obtain ⟨held, hheld⟩ : ∃ held, ws.getD an 0 = held := ⟨_, rfl⟩
            have HE := hide hheld
            clear hheld
            refine (store_h (h + 1) h n an ws st kk aa oo vv dd nx _ hM4 an1 s0 (by omega) held (unhide HE)).mono ?_
            rintro e w5 ⟨rfl, hM5, hF5⟩
            have hR5 := hR4.frm hF5 (by omega) (by omega) (by omega) (by omega)
            have z5 := hF5.size
            have zc := hM4.clt
            have hX5 := (hF5.block y yl (by omega) (by omega)).trans (unhide HX)
            have B5 : Below h w w5 := B4.trans (hF5.below (by omega) (by omega) (by omega))
            have x1 : w5.cell? ⟨y, 1, none⟩ = some (.int .i64 an) := by rw [cell_of hX5]; rfl
            have x2 : w5.cell? ⟨y, 2, none⟩ = some (.int .i64 o) := by rw [cell_of hX5]; rfl
            have x3 : w5.cell? ⟨y, 3, none⟩ = some (.int .i64 nx) := by rw [cell_of hX5]; rfl
            clear hX5 HX hF5 hM4 hR4 B4
            go_wp2_with fail
            refine (do2_h (g + 1) g n an ws st kk aa oo vv dd 0 nx _ hR5 an1 s0 (by omega) held (unhide HE)).mono ?_
            rintro e w6 ⟨rfl, hR6, hF6⟩
            have hM6 := hM5.frm hF6 (by omega) (by omega) (by omega) (by omega)
            have z6 := hF6.size
            have B6 : Below h w w6 := B5.trans (hF6.below (by omega) (by omega) (by omega))
            clear hF6 hM5 hR5 B5 x1 x2 x3
            go_wp2_with fail
            refine (last_any _ _ _ _ _ _ _ _ _ _ _ hM6).mono ?_
            rintro e w7 ⟨rfl, hB7⟩
            have hM7 := hM6.below hB7
            have hR7 := hR6.below hB7
            have B7 : Below h w w7 := B6.trans (hB7.mono (by have := hM6.blt; omega))
            clear hB7 hM6 hR6 B6
            go_wp2_with fail
            have hA8 := putAll (w := w7) (.cells #[.int .i64 2, .int .i64 an, .int .i64 held, .int .i64 nx, .bool true] 27) w7.heap.size rfl
            have B8w := (Below.refl _ w7).alloc (Nat.le_refl _) (.cells #[.int .i64 2, .int .i64 an, .int .i64 held, .int .i64 nx, .bool true] 27)
            have hM8 := hM7.below B8w
            have hR8 := hR7.below B8w
            have B8 : Below h w _ := B7.trans (B8w.mono (by have := hM7.blt; omega))
            clear hM7 hR7 B7 B8w
            generalize w7.alloc (.cells #[.int .i64 2, .int .i64 an, .int .i64 held, .int .i64 nx, .bool true] 27) = w8 at hA8 hM8 hR8 B8 ⊢
            generalize w7.heap.size = a8 at hA8 ⊢
            obtain ⟨y0, y1, y2, y3, y4, y5, y6, yf⟩ := hR8.cells
            obtain ⟨z0, z1, z2, z3, z4, zf⟩ := accCells hA8
            clear y0 yf zf hA8
            have hst : ∀ m, Calls Try.prog 10 #[.pointer (some ⟨h + 1, 0, none⟩)] (w8.drewN m) fun e w' => e = .returned (.int .i64 (st + 1)) ∧ w' = w8.drewN m := fun m => steps_any _ _ _ _ _ _ _ _ _ _ _ (hM8.of rfl rfl)
            have HST := hide hst
            clear hst
            go_quiet ((go_at_call 10; exact Calls.quiet_of_same (unhide HST _)))
            go_wp2
            go_roundw
            case rel => exact ⟨k + 1, (ws.set an nx), st + 1, _, _, _, _, _, by omega, by omega, by go_num, by omega, by omega, hM8.of rfl rfl, hR8.of rfl rfl, below_dn B8 nq⟩
            case measure => simp [intOf]; omega
          · have hr2 : at_ < 0 ∨ (n : Int) ≤ at_ := by omega
            have HA := hide hr2
            clear hr2 hr
            refine (store_no _ _ n at_ nx _ hM4.cells.1 (unhide HA)).mono ?_
            rintro e w5 ⟨rfl, hB5⟩
            have hM5 := hM4.below hB5
            have hR5 := hR4.below hB5
            have hX5 := (hB5.block y yl).trans (unhide HX)
            have zc := hM4.clt
            have B5 : Below h w w5 := B4.trans (hB5.mono (by omega))
            have x1 : w5.cell? ⟨y, 1, none⟩ = some (.int .i64 at_) := by rw [cell_of hX5]; rfl
            have x2 : w5.cell? ⟨y, 2, none⟩ = some (.int .i64 o) := by rw [cell_of hX5]; rfl
            have x3 : w5.cell? ⟨y, 3, none⟩ = some (.int .i64 nx) := by rw [cell_of hX5]; rfl
            clear hX5 HX hB5 hM4 hR4 B4
            go_wp2_with fail
            refine (do_no _ _ n 2 at_ 0 nx _ hR5.cells.1 (unhide HA)).mono ?_
            rintro e w6 ⟨rfl, rfl⟩
            have hM6 := hM5
            have hR6 := hR5
            have B6 := B5
            clear hM5 hR5 B5 x1 x2 x3
            go_wp2_with fail
            refine (last_any _ _ _ _ _ _ _ _ _ _ _ hM6).mono ?_
            rintro e w7 ⟨rfl, hB7⟩
            have hM7 := hM6.below hB7
            have hR7 := hR6.below hB7
            have B7 : Below h w w7 := B6.trans (hB7.mono (by have := hM6.blt; omega))
            clear hB7 hM6 hR6 B6
            go_wp2_with fail
            have hA8 := putAll (w := w7) (.cells #[.int .i64 kk, .int .i64 aa, .int .i64 oo, .int .i64 vv, .bool dd] 27) w7.heap.size rfl
            have B8w := (Below.refl _ w7).alloc (Nat.le_refl _) (.cells #[.int .i64 kk, .int .i64 aa, .int .i64 oo, .int .i64 vv, .bool dd] 27)
            have hM8 := hM7.below B8w
            have hR8 := hR7.below B8w
            have B8 : Below h w _ := B7.trans (B8w.mono (by have := hM7.blt; omega))
            clear hM7 hR7 B7 B8w
            generalize w7.alloc (.cells #[.int .i64 kk, .int .i64 aa, .int .i64 oo, .int .i64 vv, .bool dd] 27) = w8 at hA8 hM8 hR8 B8 ⊢
            generalize w7.heap.size = a8 at hA8 ⊢
            obtain ⟨y0, y1, y2, y3, y4, y5, y6, yf⟩ := hR8.cells
            obtain ⟨z0, z1, z2, z3, z4, zf⟩ := accCells hA8
            clear y0 yf zf hA8
            have hst : ∀ m, Calls Try.prog 10 #[.pointer (some ⟨h + 1, 0, none⟩)] (w8.drewN m) fun e w' => e = .returned (.int .i64 (st)) ∧ w' = w8.drewN m := fun m => steps_any _ _ _ _ _ _ _ _ _ _ _ (hM8.of rfl rfl)
            have HST := hide hst
            clear hst
            go_quiet ((go_at_call 10; exact Calls.quiet_of_same (unhide HST _)))
            go_wp2
            go_roundw
            case rel => exact ⟨k + 1, ws, st, _, _, _, _, _, by omega, by omega, by go_num, by omega, by omega, hM8.of rfl rfl, hR8.of rfl rfl, below_dn B8 nq⟩
            case measure => simp [intOf]; omega
        · have t2 : (kd == 2) = false := by simp [hk2']
          clear hk2'
          go_wp2_with fail
          have hX := putAll (w := wr) (.cells #[.int .i64 kd, .int .i64 at_, .int .i64 o, .int .i64 nx] 42) wr.heap.size rfl
          have hM4 := hMr.alloc (.cells #[.int .i64 kd, .int .i64 at_, .int .i64 o, .int .i64 nx] 42)
          have hR4 := hRr.below ((Below.refl _ wr).alloc (Nat.le_refl _) (.cells #[.int .i64 kd, .int .i64 at_, .int .i64 o, .int .i64 nx] 42))
          have B4 := hBr.alloc (by have := hMr.blt; omega) (.cells #[.int .i64 kd, .int .i64 at_, .int .i64 o, .int .i64 nx] 42)
          have xg := hRr.blt
          clear hMr hRr hBr c0 c1 c2 c3
          generalize wr.alloc (.cells #[.int .i64 kd, .int .i64 at_, .int .i64 o, .int .i64 nx] 42) = w4 at hX hM4 hR4 B4 ⊢
          generalize wr.heap.size = y at hX xg ⊢
          have HX := hide hX
          have yl : y < w4.heap.size := (Array.getElem?_eq_some_iff.1 hX).1
          clear hX
          by_cases hr : 0 ≤ at_ ∧ at_ < n
          · obtain ⟨r0, r1⟩ := hr
            obtain ⟨an, rfl⟩ := Int.eq_ofNat_of_zero_le r0
            have an1 : an < n := by omega
            obtain ⟨held, hheld⟩ : ∃ held, ws.getD an 0 = held := ⟨_, rfl⟩
            have HE := hide hheld
            clear hheld
            by_cases he : held = o
            · have HO := hide he
              clear he
              refine (swap_y (h + 1) h n an ws st kk aa oo vv dd o nx _ hM4 an1 s0 (by omega) held (unhide HE) (unhide HO)).mono ?_
              rintro e w5 ⟨rfl, hM5, hF5⟩
              have hR5 := hR4.frm hF5 (by omega) (by omega) (by omega) (by omega)
              have z5 := hF5.size
              have zc := hM4.clt
              have hX5 := (hF5.block y yl (by omega) (by omega)).trans (unhide HX)
              have B5 : Below h w w5 := B4.trans (hF5.below (by omega) (by omega) (by omega))
              have x1 : w5.cell? ⟨y, 1, none⟩ = some (.int .i64 an) := by rw [cell_of hX5]; rfl
              have x2 : w5.cell? ⟨y, 2, none⟩ = some (.int .i64 o) := by rw [cell_of hX5]; rfl
              have x3 : w5.cell? ⟨y, 3, none⟩ = some (.int .i64 nx) := by rw [cell_of hX5]; rfl
              clear hX5 HX hF5 hM4 hR4 B4
              go_wp2_with fail
              refine (do3_y (g + 1) g n an ws st kk aa oo vv dd o nx _ hR5 an1 s0 (by omega) held (unhide HE) (unhide HO)).mono ?_
              rintro e w6 ⟨rfl, hR6, hF6⟩
              have hM6 := hM5.frm hF6 (by omega) (by omega) (by omega) (by omega)
              have z6 := hF6.size
              have B6 : Below h w w6 := B5.trans (hF6.below (by omega) (by omega) (by omega))
              clear hF6 hM5 hR5 B5 x1 x2 x3
              go_wp2_with fail
              refine (last_any _ _ _ _ _ _ _ _ _ _ _ hM6).mono ?_
              rintro e w7 ⟨rfl, hB7⟩
              have hM7 := hM6.below hB7
              have hR7 := hR6.below hB7
              have B7 : Below h w w7 := B6.trans (hB7.mono (by have := hM6.blt; omega))
              clear hB7 hM6 hR6 B6
              go_wp2_with fail
              have hA8 := putAll (w := w7) (.cells #[.int .i64 3, .int .i64 an, .int .i64 held, .int .i64 nx, .bool true] 27) w7.heap.size rfl
              have B8w := (Below.refl _ w7).alloc (Nat.le_refl _) (.cells #[.int .i64 3, .int .i64 an, .int .i64 held, .int .i64 nx, .bool true] 27)
              have hM8 := hM7.below B8w
              have hR8 := hR7.below B8w
              have B8 : Below h w _ := B7.trans (B8w.mono (by have := hM7.blt; omega))
              clear hM7 hR7 B7 B8w
              generalize w7.alloc (.cells #[.int .i64 3, .int .i64 an, .int .i64 held, .int .i64 nx, .bool true] 27) = w8 at hA8 hM8 hR8 B8 ⊢
              generalize w7.heap.size = a8 at hA8 ⊢
              obtain ⟨y0, y1, y2, y3, y4, y5, y6, yf⟩ := hR8.cells
              obtain ⟨z0, z1, z2, z3, z4, zf⟩ := accCells hA8
              clear y0 yf zf hA8
              have hst : ∀ m, Calls Try.prog 10 #[.pointer (some ⟨h + 1, 0, none⟩)] (w8.drewN m) fun e w' => e = .returned (.int .i64 (st + 1)) ∧ w' = w8.drewN m := fun m => steps_any _ _ _ _ _ _ _ _ _ _ _ (hM8.of rfl rfl)
              have HST := hide hst
              clear hst
              go_quiet ((go_at_call 10; exact Calls.quiet_of_same (unhide HST _)))
              go_wp2
              go_roundw
              case rel => exact ⟨k + 1, (ws.set an nx), st + 1, _, _, _, _, _, by omega, by omega, by go_num, by omega, by omega, hM8.of rfl rfl, hR8.of rfl rfl, below_dn B8 nq⟩
              case measure => simp [intOf]; omega
            · have HO := hide he
              clear he
              refine (swap_n (h + 1) h n an ws st kk aa oo vv dd o nx _ hM4 an1 s0 (by omega) held (unhide HE) (unhide HO)).mono ?_
              rintro e w5 ⟨rfl, hM5, hF5⟩
              have hR5 := hR4.frm hF5 (by omega) (by omega) (by omega) (by omega)
              have z5 := hF5.size
              have zc := hM4.clt
              have hX5 := (hF5.block y yl (by omega) (by omega)).trans (unhide HX)
              have B5 : Below h w w5 := B4.trans (hF5.below (by omega) (by omega) (by omega))
              have x1 : w5.cell? ⟨y, 1, none⟩ = some (.int .i64 an) := by rw [cell_of hX5]; rfl
              have x2 : w5.cell? ⟨y, 2, none⟩ = some (.int .i64 o) := by rw [cell_of hX5]; rfl
              have x3 : w5.cell? ⟨y, 3, none⟩ = some (.int .i64 nx) := by rw [cell_of hX5]; rfl
              clear hX5 HX hF5 hM4 hR4 B4
              go_wp2_with fail
              refine (do3_n (g + 1) g n an ws st kk aa oo vv dd o nx _ hR5 an1 s0 (by omega) held (unhide HE) (unhide HO)).mono ?_
              rintro e w6 ⟨rfl, hR6, hF6⟩
              have hM6 := hM5.frm hF6 (by omega) (by omega) (by omega) (by omega)
              have z6 := hF6.size
              have B6 : Below h w w6 := B5.trans (hF6.below (by omega) (by omega) (by omega))
              clear hF6 hM5 hR5 B5 x1 x2 x3
              go_wp2_with fail
              refine (last_any _ _ _ _ _ _ _ _ _ _ _ hM6).mono ?_
              rintro e w7 ⟨rfl, hB7⟩
              have hM7 := hM6.below hB7
              have hR7 := hR6.below hB7
              have B7 : Below h w w7 := B6.trans (hB7.mono (by have := hM6.blt; omega))
              clear hB7 hM6 hR6 B6
              go_wp2_with fail
              have hA8 := putAll (w := w7) (.cells #[.int .i64 3, .int .i64 an, .int .i64 held, .int .i64 held, .bool false] 27) w7.heap.size rfl
              have B8w := (Below.refl _ w7).alloc (Nat.le_refl _) (.cells #[.int .i64 3, .int .i64 an, .int .i64 held, .int .i64 held, .bool false] 27)
              have hM8 := hM7.below B8w
              have hR8 := hR7.below B8w
              have B8 : Below h w _ := B7.trans (B8w.mono (by have := hM7.blt; omega))
              clear hM7 hR7 B7 B8w
              generalize w7.alloc (.cells #[.int .i64 3, .int .i64 an, .int .i64 held, .int .i64 held, .bool false] 27) = w8 at hA8 hM8 hR8 B8 ⊢
              generalize w7.heap.size = a8 at hA8 ⊢
              obtain ⟨y0, y1, y2, y3, y4, y5, y6, yf⟩ := hR8.cells
              obtain ⟨z0, z1, z2, z3, z4, zf⟩ := accCells hA8
              clear y0 yf zf hA8
              have hst : ∀ m, Calls Try.prog 10 #[.pointer (some ⟨h + 1, 0, none⟩)] (w8.drewN m) fun e w' => e = .returned (.int .i64 (st + 1)) ∧ w' = w8.drewN m := fun m => steps_any _ _ _ _ _ _ _ _ _ _ _ (hM8.of rfl rfl)
              have HST := hide hst
              clear hst
              go_quiet ((go_at_call 10; exact Calls.quiet_of_same (unhide HST _)))
              go_wp2
              go_roundw
              case rel => exact ⟨k + 1, ws, st + 1, _, _, _, _, _, by omega, by omega, by go_num, by omega, by omega, hM8.of rfl rfl, hR8.of rfl rfl, below_dn B8 nq⟩
              case measure => simp [intOf]; omega
          · have hr2 : at_ < 0 ∨ (n : Int) ≤ at_ := by omega
            have HA := hide hr2
            clear hr2 hr
            refine (swap_no _ _ n at_ o nx _ hM4.cells.1 (unhide HA)).mono ?_
            rintro e w5 ⟨rfl, hB5⟩
            have hM5 := hM4.below hB5
            have hR5 := hR4.below hB5
            have hX5 := (hB5.block y yl).trans (unhide HX)
            have zc := hM4.clt
            have B5 : Below h w w5 := B4.trans (hB5.mono (by omega))
            have x1 : w5.cell? ⟨y, 1, none⟩ = some (.int .i64 at_) := by rw [cell_of hX5]; rfl
            have x2 : w5.cell? ⟨y, 2, none⟩ = some (.int .i64 o) := by rw [cell_of hX5]; rfl
            have x3 : w5.cell? ⟨y, 3, none⟩ = some (.int .i64 nx) := by rw [cell_of hX5]; rfl
            clear hX5 HX hB5 hM4 hR4 B4
            go_wp2_with fail
            refine (do_no _ _ n 3 at_ o nx _ hR5.cells.1 (unhide HA)).mono ?_
            rintro e w6 ⟨rfl, rfl⟩
            have hM6 := hM5
            have hR6 := hR5
            have B6 := B5
            clear hM5 hR5 B5 x1 x2 x3
            go_wp2_with fail
            refine (last_any _ _ _ _ _ _ _ _ _ _ _ hM6).mono ?_
            rintro e w7 ⟨rfl, hB7⟩
            have hM7 := hM6.below hB7
            have hR7 := hR6.below hB7
            have B7 : Below h w w7 := B6.trans (hB7.mono (by have := hM6.blt; omega))
            clear hB7 hM6 hR6 B6
            go_wp2_with fail
            have hA8 := putAll (w := w7) (.cells #[.int .i64 kk, .int .i64 aa, .int .i64 oo, .int .i64 vv, .bool dd] 27) w7.heap.size rfl
            have B8w := (Below.refl _ w7).alloc (Nat.le_refl _) (.cells #[.int .i64 kk, .int .i64 aa, .int .i64 oo, .int .i64 vv, .bool dd] 27)
            have hM8 := hM7.below B8w
            have hR8 := hR7.below B8w
            have B8 : Below h w _ := B7.trans (B8w.mono (by have := hM7.blt; omega))
            clear hM7 hR7 B7 B8w
            generalize w7.alloc (.cells #[.int .i64 kk, .int .i64 aa, .int .i64 oo, .int .i64 vv, .bool dd] 27) = w8 at hA8 hM8 hR8 B8 ⊢
            generalize w7.heap.size = a8 at hA8 ⊢
            obtain ⟨y0, y1, y2, y3, y4, y5, y6, yf⟩ := hR8.cells
            obtain ⟨z0, z1, z2, z3, z4, zf⟩ := accCells hA8
            clear y0 yf zf hA8
            have hst : ∀ m, Calls Try.prog 10 #[.pointer (some ⟨h + 1, 0, none⟩)] (w8.drewN m) fun e w' => e = .returned (.int .i64 (st)) ∧ w' = w8.drewN m := fun m => steps_any _ _ _ _ _ _ _ _ _ _ _ (hM8.of rfl rfl)
            have HST := hide hst
            clear hst
            go_quiet ((go_at_call 10; exact Calls.quiet_of_same (unhide HST _)))
            go_wp2
            go_roundw
            case rel => exact ⟨k + 1, ws, st, _, _, _, _, _, by omega, by omega, by go_num, by omega, by omega, hM8.of rfl rfl, hR8.of rfl rfl, below_dn B8 nq⟩
            case measure => simp [intOf]; omega
    · have hex : ¬ (k : Int) < (len1 : Int) ∨ ((k : Int) < (len1 : Int) ∧ ¬ (k : Int) < 200) := by omega
      clear hin
      have y0 := hRr.cells.1
      have gl := hRr.blt
      rcases hex with hx | ⟨hx, hy⟩
      all_goals
        go_wp2_with fail
        go_region_held3 (fun w' => w'.cell? ⟨g + 1, 0, none⟩ = some (.slice (some ⟨g, 0, none⟩) n n)) (go_keep)
          (first
            | (go_at_call 14; refine (words_any _ _ _ _ _ _ _ _ _ _ _ hMr.drew).mono ?_; rintro e w4 ⟨rfl, hW4, hB4⟩; have y4 := (hB4.cell (p := ⟨g + 1, 0, none⟩) gl).trans y0; have hR4 := (hRr.of (W' := wr.drew) rfl rfl).below hB4; have HW4 := hide hW4; clear hW4)
            | (go_at_call 18; refine (same_true _ _ n ws _ n64 hMr.len (unhide HW4) hR4.hc).mono ?_; rintro e w5 ⟨rfl, m5, rfl⟩)
            | (go_at_call 15; refine (known_true _).mono ?_; rintro e w6 ⟨rfl, hB6⟩; have y6 := (hB6.cell (p := ⟨g + 1, 0, none⟩) (by have := hR4.blt; exact this)).trans y4))
        go_wp2
        go_ret
        rw [unhide Hh]
        have e4 : wr.heap.size ≤ w4.heap.size := hB4.size
        have b4 : Below h w w4 := hBr.drew.trans (hB4.mono (by show h ≤ wr.heap.size; omega))
        exact ⟨rfl, (below_dn b4 m5).trans (hB6.mono (by show h ≤ w4.heap.size; omega))⟩

theorem walk (a0 : Int) (a1 : Option Addr) (len1 cap1 : Nat) (w : World) (w1 : Asks w a1 len1) :
    Calls Try.prog 4 #[.int .i64 a0, .slice a1 len1 cap1] w fun e w' => e = .returned (.bool true) ∧ Below w.heap.size w w' := by
  by_cases h : 1 ≤ a0 ∧ a0 ≤ 64
  · obtain ⟨h1, h2⟩ := h
    obtain ⟨n, rfl⟩ := Int.eq_ofNat_of_zero_le (show 0 ≤ a0 by omega)
    exact walk_yes n a1 len1 cap1 w (by omega) (by omega) w1
  · exact walk_no a0 a1 len1 cap1 w (by omega)

set_option maxRecDepth 100000 in
theorem lifted (os : Os) (started : os.Started) (H : Type) (enc : TypeId × Value → H) :
    ReturnsInHanded {} Try.checked os 4 .any (Rows.cellPlaysSpec.pre6 enc Try.prog Try.f4 Rows.cellPlaysRow.domain false) (Rows.cellPlaysSpec.post enc Try.prog Try.f4 false true false false) := by
  refine returnsInHanded_of_change (C := Try.checked) own started (by kernel_rfl) Try.func4
    (ChangeSpec.witness6 (enc := enc) (C := Try.checked) false ⟨#[], #[.int .i64 0, .slice none 0 0], []⟩ 8 (by kernel_rfl) (by kernel_rfl) (by kernel_rfl) (by kernel_rfl)) ?_
  intro W base args ds gs before hval0 hW hcnd _
  have hval : ∀ (j : Nat) t v, Try.f4.params[j]? = some t → args[j]? = some v → Value.okWide Try.prog W .any base t v := hval0
  have hW' := hW
  obtain ⟨p, q, hA0, hV, rfl, hfz, hnd⟩ := hW
  have hA : DataW.TrodAll enc Try.prog W 0 (fun _ => true) true Try.f4.params.toList args.toList ds p := hA0
  rw [Try.params4] at hA hval
  obtain ⟨v0, vs0, d0, ds0, p0, q0, hargs, rfl, rfl, h0, r0⟩ := trodAll_cons hA
  obtain ⟨v1, vs1, d1, ds1, p1, q1, rfl, rfl, rfl, h1, r1⟩ := trodAll_cons r0
  obtain ⟨rfl, rfl, rfl⟩ := trodAll_nil r1
  obtain rfl : args = #[v0, v1] := by cases args; simp_all
  obtain ⟨rfl, rfl⟩ := trodVars_none hV
  obtain ⟨a0, rfl, rfl, rfl, w0⟩ := open_int Try.underlying3 (hval 0 3 v0 rfl rfl) h0
  obtain ⟨a1, len1, cap1, rfl⟩ := okWide_slice Try.underlying38 (hval 1 38 v1 rfl rfl)
  have k1 := h1
  have lt1 : ∀ x ∈ p1, x.block < W.heap.size := by obtain ⟨m, hm⟩ := k1; exact DataW.trod_lt m _ _ _ hm
  have w1 : Asks W a1 len1 := by
    obtain ⟨fuel, hf⟩ := h1
    exact asks_of (by simpa [Value.cells] using hf)
  clear hA0 hval0
  refine (walk a0 a1 len1 cap1 W w1).mono fun e W' ⟨he, bel⟩ => ?_
  subst he
  exact ⟨_, rfl, _, _, _, [], _, [], hW', trodAll_mk1 (shut_bool Try.underlying4 _), (trodAll_cons_mk (shut_int Try.underlying3 w0) (trodAll_cons_mk (Below.trod laidOut (by kernel_rfl) (of_decide_eq_true (by kernel_rfl)) k1 bel lt1) trodAll_mk0)), rfl, bel.frame _, fun h => by cases h⟩

theorem over : Rows.cellPlaysRow.holds Try.pinned (OpenSpec.ofChange Rows.cellPlaysSpec) :=
  OpenClaim.holds_of_wide 4 Try.f4 rfl rfl rfl rfl rfl rfl rfl ⟨rfl, rfl, rfl, rfl, rfl⟩ rfl rfl rfl rfl rfl (by kernel_rfl) Try.func4 (by kernel_rfl)
    (of_decide_eq_true (by kernel_rfl)) (by unfold Func.isWrapper; first | (rw [if_pos (by decide +kernel)]; kernel_rfl) | (rw [if_neg (by decide +kernel)]; exact ⟨rfl, rfl⟩))
    (fun os started H enc _ => lifted os started H enc)

end Go.Proofs.Ytfcklnfbjdbbcaa.cellPlays

namespace Go.Proofs.Ytfcklnfbjdbbcaa
/-- CellPlays answers true. -/
theorem cellPlays_proved : Rows.CellPlaysSaid := cellPlays.over
#print axioms cellPlays_proved
end Go.Proofs.Ytfcklnfbjdbbcaa
