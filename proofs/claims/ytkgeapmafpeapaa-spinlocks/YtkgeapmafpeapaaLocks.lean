/-
  SpinLocks: never do two hold one lock; all come to their end; who is stepped alone is done behind what its work takes. No conditions.
-/
import Derived.Test.YtkgeapmafpeapaaLocksA
import Derived.ProofKit
import Derived.OpenShut
import Derived.ShutString
import Derived.ChangeOld
namespace Go.Proofs.Ytkgeapmafpeapaa.spinLocks
open Go.ChangeShapes Go.WideShapes Go.ChangeAt Go.RowKit
attribute [local go_sem ↓] Go.wp_at_zero Go.wp_at_succ
set_option linter.unusedVariables false

theorem own : ownKnob Try.prog.godebug = none := by kernel_rfl
theorem laidOut : laidOutB Try.prog = true := by kernel_rfl

/-- What the frame tells of a slice of integers. -/
def IsRow (k : IntKind) (w : World) (a : Option Addr) (len cap : Nat) (zs : List Int) : Prop :=
  (a = none ∧ len = 0 ∧ cap = 0 ∧ zs = []) ∨
  ∃ x, a = some x ∧ len ≤ cap ∧ cap ≤ maxLen ∧ zs.length = cap ∧ (∀ i, i < zs.length → w.cell? (x.add i) = some (.int k (zs.getD i 0))) ∧ ∀ n ∈ zs, (Lit.int k n).wf = true


theorem IsRow.picks {w : World} {a : Option Addr} {len cap : Nat} {zs : List Int} (h : IsRow .i64 w a len cap zs) : Picks w a len := by
  rcases h with ⟨rfl, rfl, rfl, rfl⟩ | ⟨x, rfl, hl, hm, hz, hc, hw⟩
  · exact ⟨Nat.zero_le _, fun i hi => absurd hi (Nat.not_lt_zero _)⟩
  · refine ⟨Nat.le_trans hl hm, fun i hi => ?_⟩
    have hiz : i < zs.length := by omega
    have c := hc i hiz
    have c0 := hc 0 (by omega)
    obtain ⟨b, off, sp⟩ := x
    have e : (⟨b, off, sp⟩ : Addr).add 0 = ⟨b, off, sp⟩ := rfl
    rw [e] at c0
    obtain rfl := spot_none c0
    rw [addr_add] at c
    have hb := wf_bounds (hw (zs.getD i 0) (by rw [List.getD_eq_getElem?_getD, List.getElem?_eq_getElem hiz]; exact List.getElem_mem hiz))
    exact ⟨b, off, zs.getD i 0, rfl, cell_lt c, c, hb.1, hb.2⟩

set_option maxRecDepth 100000 in
set_option maxHeartbeats 4000000 in
theorem walk (a0 a1 : Int) (a2 : Option Addr) (len2 cap2 : Nat) (a3 : Int) (w : World) (hp : Picks w a2 len2) (x30 : -9223372036854775808 ≤ a3) (x31 : a3 ≤ 9223372036854775807) :
    Calls Try.prog 6 #[.int .i64 a0, .int .i64 a1, .slice a2 len2 cap2, .int .i64 a3] w fun e w' => e = .returned (.bool true) ∧ Below w.heap.size w w' := by
  obtain ⟨i0, hi, hz0, hz1, hz2⟩ := info_parts info30
  obtain ⟨hml2, hrow⟩ := hp
  unfold maxLen at hml2
  have HR := hide hrow
  clear hrow
  go_enter Try.func6, Try.ntmps6
  go_wp2_with fail
  refine (within_any a0 6 _ (by omega) (by omega)).mono ?_
  rintro e w1 ⟨⟨n0, p0, p1, rfl⟩, rfl⟩
  go_wp2_with fail
  refine (within_any a1 8 _ (by omega) (by omega)).mono ?_
  rintro e w1 ⟨⟨wk, q0, q1, rfl⟩, rfl⟩
  obtain ⟨W, rfl⟩ := Int.eq_ofNat_of_zero_le q0
  obtain ⟨n, hn⟩ : ∃ n : Nat, 1 + n0 = (n : Int) := ⟨(1 + n0).toNat, by omega⟩
  have n1 : 1 ≤ n := by omega
  have n8 : n ≤ 8 := by omega
  have n8' : (n : Int) ≤ 8 := by omega
  rw [hn]
  clear p0 p1 hn q0
  go_wp2_with fail
  refine (new1 _).mono ?_
  rintro e w2 ⟨rfl, hM2, hB2⟩
  have z2 := hB2.size
  have b2 := hM2.blt
  generalize hh : w1.heap.size = h at *
  have HH := hide hh
  clear hh
  generalize hg : w2.heap.size = g at *
  have HG := hide hg
  clear hg
  go_wp2_with fail
  go_loopw [11, 12] (fun v i wr => ∃ k : Nat, k ≤ n ∧ i = .int .i64 k ∧ wr.ownsRow g 30 5 v k (rowsOf Jb.row (List.replicate k ⟨1, 0, W, 0, 0⟩)) ∧ Below g w2 wr ∧ g ≤ wr.heap.size) (fun _ i _ => n - (intOf i).toNat)
  case atStart => exact ⟨0, Nat.zero_le _, rfl, World.ownsRow_nil _ _ _ _, Below.refl _ _, by rw [unhide HG]; omega⟩
  case round =>
    obtain ⟨k, hk, rfl, hown, hB, hs⟩ := hrel
    by_cases hkn : k < n
    · have j1 : (k : Int) < (n : Int) := by omega
      go_wp2_with (first
        | (at_builtin; refine wpList_append_own _ rfl _ _ 31 rfl g 30 i0 (.agg #[.int .i64 0, .int .i64 0, .int .i64 0, .int .i64 0, .int .i64 0]) 5 40 Try.underlying31 hi hz0 hz1 hz2 rfl (by decide) _ _ _ rfl (hown.alloc _) ⟨wr.heap.size, 0, none⟩ 1 1 [.int .i64 1, .int .i64 0, .int .i64 W, .int .i64 0, .int .i64 0] rfl rfl ?c1 ?c2 ?c3 ?c4 ?c5 ?_))
      case c1 =>
        intro j u hj
        match j, hj with
        | 0, hj => simp at hj; subst hj; simp [Addr.add]
        | 1, hj => simp at hj; subst hj; simp [Addr.add]
        | 2, hj => simp at hj; subst hj; simp [Addr.add]
        | 3, hj => simp at hj; subst hj; simp [Addr.add]
        | 4, hj => simp at hj; subst hj; simp [Addr.add]
      case c2 => intro u hu; simp at hu; rcases hu with rfl | rfl | rfl | rfl <;> rfl
      case c3 => unfold maxLen; omega
      case c4 => omega
      case c5 => simp; omega
      intro v' w3 hown' hgrow _
      have hB1 := grown_below hB hown hgrow hs
      have hs1 : g ≤ w3.heap.size := by have := hgrow.size; simp at this; omega
      have hown1 : w3.ownsRow g 30 5 v' (k + 1) (rowsOf Jb.row (List.replicate (k + 1) ⟨1, 0, W, 0, 0⟩)) := by
        rw [List.replicate_succ', rows_snoc]; exact hown'
      have HO := hide hown1
      clear hown' hgrow hown hown1
      go_wp2_with fail
      go_roundw
      case rel => exact ⟨k + 1, by omega, by go_num, unhide HO, hB1, hs1⟩
      case measure => simp [intOf]; omega
    · obtain rfl : k = n := by omega
      clear hkn hk
      have hM3 := hM2.below (by rw [unhide HG]; exact hB)
      obtain ⟨pa, cap, rfl, hJ⟩ := JobsAt.of_ownsL (List.length_replicate) hown
      clear hown
      go_wp2_with fail
      have hfit : ∀ (i : Nat) (j : Jb), (List.replicate k (⟨1, 0, W, 0, 0⟩ : Jb))[i]? = some j → j.fit ((1 : Nat) : Int) := by
        intro i j hj
        rw [List.getElem?_replicate] at hj
        split at hj
        · cases hj; exact ⟨by simp, by simp; omega, by simp, .inl ⟨rfl, by simp⟩⟩
        · cases hj
      refine (new_goodL (h + 1) h 1 k _ 0 0 0 0 0 false (List.replicate k ⟨1, 0, W, 0, 0⟩) (List.length_replicate) pa cap wr hM3 hJ hfit n8).mono ?_
      rintro e w4 ⟨r, q, rfl, hr, hq, hR4, hB4⟩
      have hI0 : HInv 0 W (machs (List.replicate k ⟨1, (0 : Nat), W, 0, 0⟩), [0]) := HInv.start 0 W k [0] rfl (by simp)
      have hG0 : Good 1 0 (machs (List.replicate k ⟨1, (0 : Nat), W, 0, 0⟩)) := Good.machs hfit
      have hml := machs_length (List.replicate k ⟨1, (0 : Nat), W, 0, 0⟩)
      rw [List.length_replicate] at hml
      replace hR4 : Run w4 r (h + 1) h q 1 [0] 0 (machs (List.replicate k ⟨1, (0 : Nat), W, 0, 0⟩)) := hR4
      generalize machs (List.replicate k ⟨1, (0 : Nat), W, 0, 0⟩) = ms0 at *
      have hB5 : Below h w1 w4 := (hB2.trans (hB.mono (by omega))).trans (hB4.mono (by omega))
      have z5 : h ≤ q := by omega
      clear hJ hfit hM2 hM3 hB2 hB hB4 hr hq hs b2 z2
      have HI0 := hide hI0
      have HG0 := hide hG0
      have HML := hide hml
      clear hI0 hG0 hml
      go_wp2_with fail
      go_loopw [15] (fun i wq => ∃ (t : Nat) (ms : List Mach) (ws : List Int) (st : Int), i = .int .i64 t ∧ t ≤ 150 ∧ 0 ≤ st ∧ st ≤ t ∧ Run wq r (h + 1) h q 1 ws st ms ∧ Good 1 st ms ∧ HInv 0 W (ms, ws) ∧ ms.length = k ∧ Below h w1 wq) (fun i _ => 150 - (intOf i).toNat)
      case atStart => exact ⟨0, ms0, [0], 0, rfl, by omega, by omega, by omega, hR4, unhide HG0, unhide HI0, unhide HML, hB5⟩
      case round =>
        obtain ⟨t, ms, ws, st, rfl, ht, s0, s1, hR, hGd, hI, hml, hB⟩ := hrel
        clear HI0 HG0 HML hR4 hB5
        clear ms0
        have hz : h ≤ wr.heap.size := by have := hB.size; rw [unhide HH] at this; exact this
        have HGr := hide hGd
        have HIr := hide hI
        have Hmlr := hide hml
        clear hGd hI hml
        have sr0 := s0
        have sr1 : st ≤ 150 := by omega
        have sc0 := s0
        have sc1 : st ≤ 300 := by omega
        by_cases hin : t < len2 ∧ t < 150
        · obtain ⟨h1, h2⟩ := hin
          have j1 : (t : Int) < (len2 : Int) := by omega
          have j2 : (t : Int) < 150 := by omega
          have j0 : (0 : Int) ≤ (t : Int) := by omega
          obtain ⟨bb, off, x, rfl, hbl, c0, x0, x1⟩ := unhide HR t h1
          replace c0 := (hB.cell (p := ⟨bb, off + t, none⟩) (by show bb < h; exact hbl)).trans c0
          go_wp2_with fail
          refine (pick_x r (h + 1) h q 1 ws st x ms wr hR x0 x1).mono ?_
          rintro e w5 ⟨rfl, hB6⟩
          have hz5 := hB6.size
          have Br : Below h w1 w5 := hB.trans (hB6.mono hz)
          have hRr := hR.below hB6
          clear hR hB hB6 c0
          by_cases ho : opn ms = []
          · have he : (!(opn ms).isEmpty) = false := by rw [ho]; rfl
            rw [he]
            clear he ho
            have HLE := hide (hRr.sys.wlen)
            go_wp2_with fail
            refine (hRr.words).mono ?_
            rintro e w20 ⟨rfl, hW20, hB20⟩
            have hz20 := hB20.size
            have x20 := word_cell hW20 0 (by rw [unhide HLE]; omega)
            have hRc := hRr.below hB20
            have Bc : Below h w1 w20 := Br.trans (hB20.mono (by omega))
            have zc : h ≤ w20.heap.size := by omega
            clear hW20 hRr Br hB20
            by_cases hL : ws.getD 0 0 = 0
            · rw [hL] at x20
              have HLc := hide hL
              have HGc := HGr
              have HIc := HIr
              have Hmlc := Hmlr
              clear hL
              go_wp2_with fail
              refine (pick_x r (h + 1) h q 1 ws st a3 ms _ hRc x30 x31).mono ?_
              rintro e w30 ⟨rfl, hB30⟩
              have hz30 := hB30.size
              have B30 : Below h w1 w30 := Bc.trans (hB30.mono (by omega))
              have R30 := hRc.below hB30
              clear hRc Bc hB30
              by_cases hop : opn ms = []
              · have he : (!(opn ms).isEmpty) = false := by rw [hop]; rfl
                rw [he]
                go_wp2_with fail
                refine (known_true _).mono ?_
                rintro e w31 ⟨rfl, hB31⟩
                go_wp2_with fail
                go_ret
                exact ⟨rfl, by rw [unhide HH]; exact B30.trans (hB31.mono (by omega))⟩
              · have he : (!(opn ms).isEmpty) = true := by cases hx : opn ms; exact absurd hx hop; rfl
                rw [he]
                obtain ⟨M0, hM0, hM0d⟩ := mem_opn.1 (picked_mem hop a3)
                have hA0 : Aln 0 W (ms, ws) (picked ms a3) 0 := .inl ⟨rfl, unhide HLc, M0, hM0, hM0d⟩
                have hpl : picked ms a3 < 8 := by have := (List.getElem?_eq_some_iff.1 hM0).1; rw [unhide Hmlc] at this; omega
                have HA0 := hide hA0
                clear he hop hM0 hM0d hA0
                generalize picked ms a3 = kk at *
                go_wp2_with fail
                go_loopw [26] (fun i wq => ∃ (j : Nat) (ms : List Mach) (ws : List Int) (st : Int), j ≤ W + 1 ∧ i = .int .i64 j ∧ 0 ≤ st ∧ st ≤ 300 + j ∧ Run wq r (h + 1) h q 1 ws st ms ∧ Good 1 st ms ∧ HInv 0 W (ms, ws) ∧ Aln 0 W (ms, ws) kk j ∧ Below h w1 wq) (fun i _ => W + 1 - (intOf i).toNat)
                case atStart => exact ⟨0, ms, ws, st, by omega, rfl, sc0, by omega, R30, unhide HGc, unhide HIc, unhide HA0, B30⟩
                case round =>
                  obtain ⟨j, ms5, ws5, st5, hj, rfl, t0, t1, hR5, hG5, hI5, hA5, hB5⟩ := hrel
                  clear HA0 R30 B30
                  have hz5 : h ≤ wr.heap.size := by have := hB5.size; rw [unhide HH] at this; exact this
                  have HG5 := hide hG5
                  have HI5 := hide hI5
                  have HA5 := hide hA5
                  clear hG5 hI5 hA5
                  by_cases hjw : j < W + 1
                  · have j1 : (j : Int) < (W : Int) + 1 := by omega
                    go_wp2_with fail
                    refine (step_at r (h + 1) h q 1 kk ws5 st5 ms5 wr hR5 (unhide HG5) t0 (by omega)).mono ?_
                    rintro e w32 ⟨rfl, ⟨st', v0, v1, hR6, hG6⟩, hF6⟩
                    have hB6 := hF6.belowAt hB5 (by omega) (Nat.le_refl _) z5 hz5
                    have hst := Aln.step (unhide HI5) (by omega) (unhide HA5)
                    have HST := hide hst
                    have HG6 := hide hG6
                    clear hst hG6 hF6
                    go_wp2_with fail
                    go_roundw
                    case rel => exact ⟨j + 1, _, _, st', by omega, by go_num, by omega, by omega, hR6, unhide HG6, (unhide HST).1, (unhide HST).2, hB6⟩
                    case measure => simp [intOf]; omega
                  · obtain rfl : j = W + 1 := by omega
                    clear hjw hj
                    obtain ⟨M5, g1, g2, g3, g4⟩ := Aln.last (unhide HI5) (unhide HA5)
                    have HT := hide (stepTold_open (ws := ws5) g1 g2)
                    simp only [] at g3 g4
                    have HG3 := hide g3
                    have HG4 := hide g4
                    clear g1 g2 g3 g4
                    go_wp2_with fail
                    refine (step_at r (h + 1) h q 1 kk ws5 st5 ms5 wr hR5 (unhide HG5) t0 (by omega)).mono ?_
                    rintro e w32 ⟨rfl, ⟨st', v0, v1, hR6, hG6⟩, hF6⟩
                    have hB6 := hF6.belowAt hB5 (by omega) (Nat.le_refl _) z5 hz5
                    have hz32 := hF6.size
                    rw [unhide HT]
                    unfold Mach.told
                    rw [unhide HG3]
                    generalize (M5.step ws5).1.sA = vA at *
                    generalize (M5.step ws5).1.sB = vB at *
                    generalize (M5.step ws5).1.tries = vT at *
                    go_wp2_with fail
                    have hR7 := hR6.alloc (.cells #[.bool true, .int .i64 vA, .int .i64 vB, .int .i64 vT] 33)
                    have hB7 := hB6.alloc (by omega) (.cells #[.bool true, .int .i64 vA, .int .i64 vB, .int .i64 vT] 33)
                    have y0 := cell_of (putAll (w := w32) (.cells #[.bool true, .int .i64 vA, .int .i64 vB, .int .i64 vT] 33) w32.heap.size rfl) 0
                    have z33 : w32.heap.size < (w32.alloc (.cells #[.bool true, .int .i64 vA, .int .i64 vB, .int .i64 vT] 33)).heap.size := by simp
                    generalize w32.alloc (.cells #[.bool true, .int .i64 vA, .int .i64 vB, .int .i64 vT] 33) = w33 at *
                    simp at y0
                    refine (hR7.words).mono ?_
                    rintro e w34 ⟨rfl, hW34, hB34⟩
                    have hz34 := hB34.size
                    have x34 := word_cell hW34 0 (by rw [hR7.sys.wlen]; omega)
                    rw [unhide HG4] at x34
                    have B34 : Below h w1 w34 := hB7.trans (hB34.mono (by omega))
                    clear hW34 hR7 hR6 hB6 hB7 hB34 y0
                    go_wp2_with fail
                    refine (known_true _).mono ?_
                    rintro e w35 ⟨rfl, hB35⟩
                    go_wp2_with fail
                    go_ret
                    exact ⟨rfl, by rw [unhide HH]; exact B34.trans (hB35.mono (by omega))⟩
            · obtain ⟨hld, hLh⟩ : ∃ hld : Nat, ws.getD 0 0 = (hld : Int) + 1 ∧ hld < 8 := by
                rcases (unhide HIr).lock with g | ⟨i, X, g1, g2, g3⟩
                · exact absurd g hL
                · refine ⟨i, g3, ?_⟩
                  have := (List.getElem?_eq_some_iff.1 g1).1
                  simp only [] at this
                  rw [unhide Hmlr] at this
                  omega
              obtain ⟨hLh, h8⟩ := hLh
              rw [hLh] at x20
              have HF0 := hide (Fin.start (unhide HIr) hLh)
              clear hL hLh
              have d0 : (0 : Int) ≤ (hld : Int) := by omega
              go_wp2_with fail
              go_loopw [23] (fun i wq => ∃ (j : Nat) (ms : List Mach) (ws : List Int) (st : Int), j ≤ W + 1 ∧ i = .int .i64 j ∧ 0 ≤ st ∧ st ≤ 150 + j ∧ Run wq r (h + 1) h q 1 ws st ms ∧ Good 1 st ms ∧ HInv 0 W (ms, ws) ∧ ms.length = k ∧ Fin 0 W (ms, ws) hld j ∧ Below h w1 wq) (fun i _ => W + 1 - (intOf i).toNat)
              case atStart => exact ⟨0, ms, ws, st, by omega, rfl, sr0, by omega, hRc, unhide HGr, unhide HIr, unhide Hmlr, unhide HF0, Bc⟩
              case round =>
                clear HF0 hRc Bc HGr HIr Hmlr sr0 sr1 HLE zc hz20 x20
                obtain ⟨j, ms, ws, st, hj, rfl, t0, t1, hRc, hG5, hI5, hml5, hA5, Bc⟩ := hrel
                have zc : h ≤ wr.heap.size := by have := Bc.size; rw [unhide HH] at this; exact this
                have HGc := hide hG5
                have HIc := hide hI5
                have HA5 := hide hA5
                have Hmlc := hide hml5
                clear hG5 hI5 hA5 hml5
                by_cases hjw : j < W + 1
                · have j1 : (j : Int) < (W : Int) + 1 := by omega
                  go_wp2_with fail
                  refine (step_at r (h + 1) h q 1 hld ws st ms wr hRc (unhide HGc) t0 (by omega)).mono ?_
                  rintro e w32 ⟨rfl, ⟨st', v0, v1, hR6, hG6⟩, hF6⟩
                  have hB6 := hF6.belowAt Bc (by omega) (Nat.le_refl _) z5 zc
                  have hst := Fin.step (unhide HIc) (unhide HA5)
                  have hml6 := stepAt_length ms ws hld
                  rw [unhide Hmlc] at hml6
                  have HST := hide hst
                  have HG6 := hide hG6
                  have HML6 := hide hml6
                  clear hst hG6 hF6 hml6
                  go_wp2_with fail
                  go_roundw
                  case rel => exact ⟨j + 1, _, _, st', by omega, by go_num, by omega, by omega, hR6, unhide HG6, (unhide HST).1, unhide HML6, (unhide HST).2, hB6⟩
                  case measure => simp [intOf]; omega
                · obtain rfl : j = W + 1 := by omega
                  have HLc := hide (Fin.free (unhide HIc) (unhide HA5))
                  clear hjw hj HA5
                  have sc0 := t0
                  have sc1 : st ≤ 300 := by omega
                  simp only [] at HLc
                  go_wp2_with fail
                  refine (pick_x r (h + 1) h q 1 ws st a3 ms _ hRc x30 x31).mono ?_
                  rintro e w30 ⟨rfl, hB30⟩
                  have hz30 := hB30.size
                  have B30 : Below h w1 w30 := Bc.trans (hB30.mono (by omega))
                  have R30 := hRc.below hB30
                  clear hRc Bc hB30
                  by_cases hop : opn ms = []
                  · have he : (!(opn ms).isEmpty) = false := by rw [hop]; rfl
                    rw [he]
                    go_wp2_with fail
                    refine (known_true _).mono ?_
                    rintro e w31 ⟨rfl, hB31⟩
                    go_wp2_with fail
                    go_ret
                    exact ⟨rfl, by rw [unhide HH]; exact B30.trans (hB31.mono (by omega))⟩
                  · have he : (!(opn ms).isEmpty) = true := by cases hx : opn ms; exact absurd hx hop; rfl
                    rw [he]
                    obtain ⟨M0, hM0, hM0d⟩ := mem_opn.1 (picked_mem hop a3)
                    have hA0 : Aln 0 W (ms, ws) (picked ms a3) 0 := .inl ⟨rfl, unhide HLc, M0, hM0, hM0d⟩
                    have hpl : picked ms a3 < 8 := by have := (List.getElem?_eq_some_iff.1 hM0).1; rw [unhide Hmlc] at this; omega
                    have HA0 := hide hA0
                    clear he hop hM0 hM0d hA0
                    generalize picked ms a3 = kk at *
                    go_wp2_with fail
                    go_loopw [26] (fun i wq => ∃ (j : Nat) (ms : List Mach) (ws : List Int) (st : Int), j ≤ W + 1 ∧ i = .int .i64 j ∧ 0 ≤ st ∧ st ≤ 300 + j ∧ Run wq r (h + 1) h q 1 ws st ms ∧ Good 1 st ms ∧ HInv 0 W (ms, ws) ∧ Aln 0 W (ms, ws) kk j ∧ Below h w1 wq) (fun i _ => W + 1 - (intOf i).toNat)
                    case atStart => exact ⟨0, ms, ws, st, by omega, rfl, sc0, by omega, R30, unhide HGc, unhide HIc, unhide HA0, B30⟩
                    case round =>
                      obtain ⟨j, ms5, ws5, st5, hj, rfl, t0, t1, hR5, hG5, hI5, hA5, hB5⟩ := hrel
                      clear HA0 R30 B30
                      have hz5 : h ≤ wr.heap.size := by have := hB5.size; rw [unhide HH] at this; exact this
                      have HG5 := hide hG5
                      have HI5 := hide hI5
                      have HA5 := hide hA5
                      clear hG5 hI5 hA5
                      by_cases hjw : j < W + 1
                      · have j1 : (j : Int) < (W : Int) + 1 := by omega
                        go_wp2_with fail
                        refine (step_at r (h + 1) h q 1 kk ws5 st5 ms5 wr hR5 (unhide HG5) t0 (by omega)).mono ?_
                        rintro e w32 ⟨rfl, ⟨st', v0, v1, hR6, hG6⟩, hF6⟩
                        have hB6 := hF6.belowAt hB5 (by omega) (Nat.le_refl _) z5 hz5
                        have hst := Aln.step (unhide HI5) (by omega) (unhide HA5)
                        have HST := hide hst
                        have HG6 := hide hG6
                        clear hst hG6 hF6
                        go_wp2_with fail
                        go_roundw
                        case rel => exact ⟨j + 1, _, _, st', by omega, by go_num, by omega, by omega, hR6, unhide HG6, (unhide HST).1, (unhide HST).2, hB6⟩
                        case measure => simp [intOf]; omega
                      · obtain rfl : j = W + 1 := by omega
                        clear hjw hj
                        obtain ⟨M5, g1, g2, g3, g4⟩ := Aln.last (unhide HI5) (unhide HA5)
                        have HT := hide (stepTold_open (ws := ws5) g1 g2)
                        simp only [] at g3 g4
                        have HG3 := hide g3
                        have HG4 := hide g4
                        clear g1 g2 g3 g4
                        go_wp2_with fail
                        refine (step_at r (h + 1) h q 1 kk ws5 st5 ms5 wr hR5 (unhide HG5) t0 (by omega)).mono ?_
                        rintro e w32 ⟨rfl, ⟨st', v0, v1, hR6, hG6⟩, hF6⟩
                        have hB6 := hF6.belowAt hB5 (by omega) (Nat.le_refl _) z5 hz5
                        have hz32 := hF6.size
                        rw [unhide HT]
                        unfold Mach.told
                        rw [unhide HG3]
                        generalize (M5.step ws5).1.sA = vA at *
                        generalize (M5.step ws5).1.sB = vB at *
                        generalize (M5.step ws5).1.tries = vT at *
                        go_wp2_with fail
                        have hR7 := hR6.alloc (.cells #[.bool true, .int .i64 vA, .int .i64 vB, .int .i64 vT] 33)
                        have hB7 := hB6.alloc (by omega) (.cells #[.bool true, .int .i64 vA, .int .i64 vB, .int .i64 vT] 33)
                        have y0 := cell_of (putAll (w := w32) (.cells #[.bool true, .int .i64 vA, .int .i64 vB, .int .i64 vT] 33) w32.heap.size rfl) 0
                        have z33 : w32.heap.size < (w32.alloc (.cells #[.bool true, .int .i64 vA, .int .i64 vB, .int .i64 vT] 33)).heap.size := by simp
                        generalize w32.alloc (.cells #[.bool true, .int .i64 vA, .int .i64 vB, .int .i64 vT] 33) = w33 at *
                        simp at y0
                        refine (hR7.words).mono ?_
                        rintro e w34 ⟨rfl, hW34, hB34⟩
                        have hz34 := hB34.size
                        have x34 := word_cell hW34 0 (by rw [hR7.sys.wlen]; omega)
                        rw [unhide HG4] at x34
                        have B34 : Below h w1 w34 := hB7.trans (hB34.mono (by omega))
                        clear hW34 hR7 hR6 hB6 hB7 hB34 y0
                        go_wp2_with fail
                        refine (known_true _).mono ?_
                        rintro e w35 ⟨rfl, hB35⟩
                        go_wp2_with fail
                        go_ret
                        exact ⟨rfl, by rw [unhide HH]; exact B34.trans (hB35.mono (by omega))⟩
          · have he : (!(opn ms).isEmpty) = true := by cases hx : opn ms; exact absurd hx ho; rfl
            rw [he]
            obtain ⟨M, hM, hMd⟩ := mem_opn.1 (picked_mem ho x)
            have hcs := lock_step (unhide HIr) hM hMd
            have hI' := (unhide HIr).step hM hMd
            have hml' := stepAt_length ms ws (picked ms x)
            have hpl : picked ms x < 8 := by have := (List.getElem?_eq_some_iff.1 hM).1; rw [unhide Hmlr] at this; omega
            rw [unhide Hmlr] at hml'
            have HT := hide (stepTold_open (ws := ws) hM hMd)
            simp only [] at hcs hI'
            have HI' := hide hI'
            have HML' := hide hml'
            have HCS := hide hcs
            have HLE := hide (hRr.sys.wlen)
            have l5q := hRr.sys.qlt
            have l5b := hRr.sys.blt
            clear he ho hcs hI' hml' hM hMd
            generalize picked ms x = kk at *
            go_wp2_with fail
            refine (hRr.words).mono ?_
            rintro e w6 ⟨rfl, hW6, hB8⟩
            have hz6 := hB8.size
            have hB9 : Below h w1 w6 := Br.trans (hB8.mono (by omega))
            have hR6 := hRr.below hB8
            have x6 := word_cell hW6 0 (by rw [unhide HLE]; omega)
            clear hW6 hRr Br hB8
            generalize hLL : ws.getD 0 0 = L at *
            have HLL := hide hLL
            clear hLL
            go_wp2_with fail
            refine (step_at r (h + 1) h q 1 kk ws st ms w6 hR6 (unhide HGr) s0 (by omega)).mono ?_
            rintro e w7 ⟨rfl, ⟨st', t0, t1, hR7, hG7⟩, hF7⟩
            have hz7 := hF7.size
            have hB10 := hF7.belowAt hB9 (by omega) (Nat.le_refl _) z5 (by omega)
            rw [unhide HT]
            unfold Mach.told
            have HG7 := hide hG7
            clear hF7 hB9 hR6 hG7 x6
            generalize (M.step ws).1.sA = vA at *
            generalize (M.step ws).1.sB = vB at *
            generalize (M.step ws).1.tries = vT at *
            generalize (M.step ws).1.done = vD at *
            generalize stepAt ms ws kk = N at *
            have hR8 := hR7.alloc (.cells #[.bool vD, .int .i64 vA, .int .i64 vB, .int .i64 vT] 33)
            have hB11 := hB10.alloc (by omega) (.cells #[.bool vD, .int .i64 vA, .int .i64 vB, .int .i64 vT] 33)
            have y0 := cell_of (putAll (w := w7) (.cells #[.bool vD, .int .i64 vA, .int .i64 vB, .int .i64 vT] 33) w7.heap.size rfl) 0
            have z33 : w7.heap.size < (w7.alloc (.cells #[.bool vD, .int .i64 vA, .int .i64 vB, .int .i64 vT] 33)).heap.size := by simp
            go_wp2_with fail
            generalize w7.alloc (.cells #[.bool vD, .int .i64 vA, .int .i64 vB, .int .i64 vT] 33) = w8 at *
            simp at y0
            clear hR7 hB10
            refine (hR8.words).mono ?_
            rintro e w9 ⟨rfl, hW9, hB12⟩
            have hz9 := hB12.size
            have x9 := word_cell hW9 0 (by rw [hR8.sys.wlen]; omega)
            have y9 := (hB12.cell (p := ⟨w7.heap.size, 0, none⟩) (by show w7.heap.size < w8.heap.size; exact z33)).trans y0
            have hB13 : Below h w1 w9 := hB11.trans (hB12.mono (by omega))
            have hR9 := hR8.below hB12
            clear hW9 hR8 hB11 hB12 y0
            have k9 : (kk : Int) < 8 := by omega
            have k0 : (0 : Int) ≤ (kk : Int) := by omega
            rcases unhide HCS with ⟨g1, g2, g3⟩ | ⟨g1, g2, g3⟩ | ⟨g1, g2, g3⟩
            all_goals
              rw [g2] at x9
              rw [g3] at y9
            · subst g1
              have e1 : ((0 : Int) == (kk : Int) + 1) = false := by simp; omega
              have e2 : ((kk : Int) + 1 == 0) = false := by simp; omega
              clear g2 g3
              go_wp2_with fail
              go_roundw
              case rel => exact ⟨t + 1, N.1, N.2, st', by go_num, by omega, by omega, by omega, hR9, unhide HG7, unhide HI', unhide HML', hB13⟩
              case measure => simp [intOf]; omega
            · have e1 : (L == 0) = false := by simp [g1]
              clear g1 g2 g3
              go_wp2_with fail
              all_goals
                go_roundw
                case rel => exact ⟨t + 1, N.1, N.2, st', by go_num, by omega, by omega, by omega, hR9, unhide HG7, unhide HI', unhide HML', hB13⟩
                case measure => simp [intOf]; omega
            · subst g1
              have e2 : ((kk : Int) + 1 == 0) = false := by simp; omega
              clear g2 g3
              go_wp2_with fail
              go_roundw
              case rel => exact ⟨t + 1, N.1, N.2, st', by go_num, by omega, by omega, by omega, hR9, unhide HG7, unhide HI', unhide HML', hB13⟩
              case measure => simp [intOf]; omega
        · have hex : ¬ (t : Int) < (len2 : Int) ∨ ((t : Int) < (len2 : Int) ∧ ¬ (t : Int) < 150) := by omega
          clear hin
          have Br := hB
          have hRr := hR
          have hz5 := hz
          clear hB hR
          rcases hex with hx | ⟨hx, hy⟩
          all_goals
            have HLE := hide (hRr.sys.wlen)
            go_wp2_with fail
            refine (hRr.words).mono ?_
            rintro e w20 ⟨rfl, hW20, hB20⟩
            have hz20 := hB20.size
            have x20 := word_cell hW20 0 (by rw [unhide HLE]; omega)
            have hRc := hRr.below hB20
            have Bc : Below h w1 w20 := Br.trans (hB20.mono (by omega))
            have zc : h ≤ w20.heap.size := by omega
            clear hW20 hRr Br hB20
            by_cases hL : ws.getD 0 0 = 0
            · rw [hL] at x20
              have HLc := hide hL
              have HGc := HGr
              have HIc := HIr
              have Hmlc := Hmlr
              clear hL
              go_wp2_with fail
              refine (pick_x r (h + 1) h q 1 ws st a3 ms _ hRc x30 x31).mono ?_
              rintro e w30 ⟨rfl, hB30⟩
              have hz30 := hB30.size
              have B30 : Below h w1 w30 := Bc.trans (hB30.mono (by omega))
              have R30 := hRc.below hB30
              clear hRc Bc hB30
              by_cases hop : opn ms = []
              · have he : (!(opn ms).isEmpty) = false := by rw [hop]; rfl
                rw [he]
                go_wp2_with fail
                refine (known_true _).mono ?_
                rintro e w31 ⟨rfl, hB31⟩
                go_wp2_with fail
                go_ret
                exact ⟨rfl, by rw [unhide HH]; exact B30.trans (hB31.mono (by omega))⟩
              · have he : (!(opn ms).isEmpty) = true := by cases hx : opn ms; exact absurd hx hop; rfl
                rw [he]
                obtain ⟨M0, hM0, hM0d⟩ := mem_opn.1 (picked_mem hop a3)
                have hA0 : Aln 0 W (ms, ws) (picked ms a3) 0 := .inl ⟨rfl, unhide HLc, M0, hM0, hM0d⟩
                have hpl : picked ms a3 < 8 := by have := (List.getElem?_eq_some_iff.1 hM0).1; rw [unhide Hmlc] at this; omega
                have HA0 := hide hA0
                clear he hop hM0 hM0d hA0
                generalize picked ms a3 = kk at *
                go_wp2_with fail
                go_loopw [26] (fun i wq => ∃ (j : Nat) (ms : List Mach) (ws : List Int) (st : Int), j ≤ W + 1 ∧ i = .int .i64 j ∧ 0 ≤ st ∧ st ≤ 300 + j ∧ Run wq r (h + 1) h q 1 ws st ms ∧ Good 1 st ms ∧ HInv 0 W (ms, ws) ∧ Aln 0 W (ms, ws) kk j ∧ Below h w1 wq) (fun i _ => W + 1 - (intOf i).toNat)
                case atStart => exact ⟨0, ms, ws, st, by omega, rfl, sc0, by omega, R30, unhide HGc, unhide HIc, unhide HA0, B30⟩
                case round =>
                  obtain ⟨j, ms5, ws5, st5, hj, rfl, t0, t1, hR5, hG5, hI5, hA5, hB5⟩ := hrel
                  clear HA0 R30 B30
                  have hz5 : h ≤ wr.heap.size := by have := hB5.size; rw [unhide HH] at this; exact this
                  have HG5 := hide hG5
                  have HI5 := hide hI5
                  have HA5 := hide hA5
                  clear hG5 hI5 hA5
                  by_cases hjw : j < W + 1
                  · have j1 : (j : Int) < (W : Int) + 1 := by omega
                    go_wp2_with fail
                    refine (step_at r (h + 1) h q 1 kk ws5 st5 ms5 wr hR5 (unhide HG5) t0 (by omega)).mono ?_
                    rintro e w32 ⟨rfl, ⟨st', v0, v1, hR6, hG6⟩, hF6⟩
                    have hB6 := hF6.belowAt hB5 (by omega) (Nat.le_refl _) z5 hz5
                    have hst := Aln.step (unhide HI5) (by omega) (unhide HA5)
                    have HST := hide hst
                    have HG6 := hide hG6
                    clear hst hG6 hF6
                    go_wp2_with fail
                    go_roundw
                    case rel => exact ⟨j + 1, _, _, st', by omega, by go_num, by omega, by omega, hR6, unhide HG6, (unhide HST).1, (unhide HST).2, hB6⟩
                    case measure => simp [intOf]; omega
                  · obtain rfl : j = W + 1 := by omega
                    clear hjw hj
                    obtain ⟨M5, g1, g2, g3, g4⟩ := Aln.last (unhide HI5) (unhide HA5)
                    have HT := hide (stepTold_open (ws := ws5) g1 g2)
                    simp only [] at g3 g4
                    have HG3 := hide g3
                    have HG4 := hide g4
                    clear g1 g2 g3 g4
                    go_wp2_with fail
                    refine (step_at r (h + 1) h q 1 kk ws5 st5 ms5 wr hR5 (unhide HG5) t0 (by omega)).mono ?_
                    rintro e w32 ⟨rfl, ⟨st', v0, v1, hR6, hG6⟩, hF6⟩
                    have hB6 := hF6.belowAt hB5 (by omega) (Nat.le_refl _) z5 hz5
                    have hz32 := hF6.size
                    rw [unhide HT]
                    unfold Mach.told
                    rw [unhide HG3]
                    generalize (M5.step ws5).1.sA = vA at *
                    generalize (M5.step ws5).1.sB = vB at *
                    generalize (M5.step ws5).1.tries = vT at *
                    go_wp2_with fail
                    have hR7 := hR6.alloc (.cells #[.bool true, .int .i64 vA, .int .i64 vB, .int .i64 vT] 33)
                    have hB7 := hB6.alloc (by omega) (.cells #[.bool true, .int .i64 vA, .int .i64 vB, .int .i64 vT] 33)
                    have y0 := cell_of (putAll (w := w32) (.cells #[.bool true, .int .i64 vA, .int .i64 vB, .int .i64 vT] 33) w32.heap.size rfl) 0
                    have z33 : w32.heap.size < (w32.alloc (.cells #[.bool true, .int .i64 vA, .int .i64 vB, .int .i64 vT] 33)).heap.size := by simp
                    generalize w32.alloc (.cells #[.bool true, .int .i64 vA, .int .i64 vB, .int .i64 vT] 33) = w33 at *
                    simp at y0
                    refine (hR7.words).mono ?_
                    rintro e w34 ⟨rfl, hW34, hB34⟩
                    have hz34 := hB34.size
                    have x34 := word_cell hW34 0 (by rw [hR7.sys.wlen]; omega)
                    rw [unhide HG4] at x34
                    have B34 : Below h w1 w34 := hB7.trans (hB34.mono (by omega))
                    clear hW34 hR7 hR6 hB6 hB7 hB34 y0
                    go_wp2_with fail
                    refine (known_true _).mono ?_
                    rintro e w35 ⟨rfl, hB35⟩
                    go_wp2_with fail
                    go_ret
                    exact ⟨rfl, by rw [unhide HH]; exact B34.trans (hB35.mono (by omega))⟩
            · obtain ⟨hld, hLh⟩ : ∃ hld : Nat, ws.getD 0 0 = (hld : Int) + 1 ∧ hld < 8 := by
                rcases (unhide HIr).lock with g | ⟨i, X, g1, g2, g3⟩
                · exact absurd g hL
                · refine ⟨i, g3, ?_⟩
                  have := (List.getElem?_eq_some_iff.1 g1).1
                  simp only [] at this
                  rw [unhide Hmlr] at this
                  omega
              obtain ⟨hLh, h8⟩ := hLh
              rw [hLh] at x20
              have HF0 := hide (Fin.start (unhide HIr) hLh)
              clear hL hLh
              have d0 : (0 : Int) ≤ (hld : Int) := by omega
              go_wp2_with fail
              go_loopw [23] (fun i wq => ∃ (j : Nat) (ms : List Mach) (ws : List Int) (st : Int), j ≤ W + 1 ∧ i = .int .i64 j ∧ 0 ≤ st ∧ st ≤ 150 + j ∧ Run wq r (h + 1) h q 1 ws st ms ∧ Good 1 st ms ∧ HInv 0 W (ms, ws) ∧ ms.length = k ∧ Fin 0 W (ms, ws) hld j ∧ Below h w1 wq) (fun i _ => W + 1 - (intOf i).toNat)
              case atStart => exact ⟨0, ms, ws, st, by omega, rfl, sr0, by omega, hRc, unhide HGr, unhide HIr, unhide Hmlr, unhide HF0, Bc⟩
              case round =>
                clear HF0 hRc Bc HGr HIr Hmlr sr0 sr1 HLE zc hz20 x20
                obtain ⟨j, ms, ws, st, hj, rfl, t0, t1, hRc, hG5, hI5, hml5, hA5, Bc⟩ := hrel
                have zc : h ≤ wr.heap.size := by have := Bc.size; rw [unhide HH] at this; exact this
                have HGc := hide hG5
                have HIc := hide hI5
                have HA5 := hide hA5
                have Hmlc := hide hml5
                clear hG5 hI5 hA5 hml5
                by_cases hjw : j < W + 1
                · have j1 : (j : Int) < (W : Int) + 1 := by omega
                  go_wp2_with fail
                  refine (step_at r (h + 1) h q 1 hld ws st ms wr hRc (unhide HGc) t0 (by omega)).mono ?_
                  rintro e w32 ⟨rfl, ⟨st', v0, v1, hR6, hG6⟩, hF6⟩
                  have hB6 := hF6.belowAt Bc (by omega) (Nat.le_refl _) z5 zc
                  have hst := Fin.step (unhide HIc) (unhide HA5)
                  have hml6 := stepAt_length ms ws hld
                  rw [unhide Hmlc] at hml6
                  have HST := hide hst
                  have HG6 := hide hG6
                  have HML6 := hide hml6
                  clear hst hG6 hF6 hml6
                  go_wp2_with fail
                  go_roundw
                  case rel => exact ⟨j + 1, _, _, st', by omega, by go_num, by omega, by omega, hR6, unhide HG6, (unhide HST).1, unhide HML6, (unhide HST).2, hB6⟩
                  case measure => simp [intOf]; omega
                · obtain rfl : j = W + 1 := by omega
                  have HLc := hide (Fin.free (unhide HIc) (unhide HA5))
                  clear hjw hj HA5
                  have sc0 := t0
                  have sc1 : st ≤ 300 := by omega
                  simp only [] at HLc
                  go_wp2_with fail
                  refine (pick_x r (h + 1) h q 1 ws st a3 ms _ hRc x30 x31).mono ?_
                  rintro e w30 ⟨rfl, hB30⟩
                  have hz30 := hB30.size
                  have B30 : Below h w1 w30 := Bc.trans (hB30.mono (by omega))
                  have R30 := hRc.below hB30
                  clear hRc Bc hB30
                  by_cases hop : opn ms = []
                  · have he : (!(opn ms).isEmpty) = false := by rw [hop]; rfl
                    rw [he]
                    go_wp2_with fail
                    refine (known_true _).mono ?_
                    rintro e w31 ⟨rfl, hB31⟩
                    go_wp2_with fail
                    go_ret
                    exact ⟨rfl, by rw [unhide HH]; exact B30.trans (hB31.mono (by omega))⟩
                  · have he : (!(opn ms).isEmpty) = true := by cases hx : opn ms; exact absurd hx hop; rfl
                    rw [he]
                    obtain ⟨M0, hM0, hM0d⟩ := mem_opn.1 (picked_mem hop a3)
                    have hA0 : Aln 0 W (ms, ws) (picked ms a3) 0 := .inl ⟨rfl, unhide HLc, M0, hM0, hM0d⟩
                    have hpl : picked ms a3 < 8 := by have := (List.getElem?_eq_some_iff.1 hM0).1; rw [unhide Hmlc] at this; omega
                    have HA0 := hide hA0
                    clear he hop hM0 hM0d hA0
                    generalize picked ms a3 = kk at *
                    go_wp2_with fail
                    go_loopw [26] (fun i wq => ∃ (j : Nat) (ms : List Mach) (ws : List Int) (st : Int), j ≤ W + 1 ∧ i = .int .i64 j ∧ 0 ≤ st ∧ st ≤ 300 + j ∧ Run wq r (h + 1) h q 1 ws st ms ∧ Good 1 st ms ∧ HInv 0 W (ms, ws) ∧ Aln 0 W (ms, ws) kk j ∧ Below h w1 wq) (fun i _ => W + 1 - (intOf i).toNat)
                    case atStart => exact ⟨0, ms, ws, st, by omega, rfl, sc0, by omega, R30, unhide HGc, unhide HIc, unhide HA0, B30⟩
                    case round =>
                      obtain ⟨j, ms5, ws5, st5, hj, rfl, t0, t1, hR5, hG5, hI5, hA5, hB5⟩ := hrel
                      clear HA0 R30 B30
                      have hz5 : h ≤ wr.heap.size := by have := hB5.size; rw [unhide HH] at this; exact this
                      have HG5 := hide hG5
                      have HI5 := hide hI5
                      have HA5 := hide hA5
                      clear hG5 hI5 hA5
                      by_cases hjw : j < W + 1
                      · have j1 : (j : Int) < (W : Int) + 1 := by omega
                        go_wp2_with fail
                        refine (step_at r (h + 1) h q 1 kk ws5 st5 ms5 wr hR5 (unhide HG5) t0 (by omega)).mono ?_
                        rintro e w32 ⟨rfl, ⟨st', v0, v1, hR6, hG6⟩, hF6⟩
                        have hB6 := hF6.belowAt hB5 (by omega) (Nat.le_refl _) z5 hz5
                        have hst := Aln.step (unhide HI5) (by omega) (unhide HA5)
                        have HST := hide hst
                        have HG6 := hide hG6
                        clear hst hG6 hF6
                        go_wp2_with fail
                        go_roundw
                        case rel => exact ⟨j + 1, _, _, st', by omega, by go_num, by omega, by omega, hR6, unhide HG6, (unhide HST).1, (unhide HST).2, hB6⟩
                        case measure => simp [intOf]; omega
                      · obtain rfl : j = W + 1 := by omega
                        clear hjw hj
                        obtain ⟨M5, g1, g2, g3, g4⟩ := Aln.last (unhide HI5) (unhide HA5)
                        have HT := hide (stepTold_open (ws := ws5) g1 g2)
                        simp only [] at g3 g4
                        have HG3 := hide g3
                        have HG4 := hide g4
                        clear g1 g2 g3 g4
                        go_wp2_with fail
                        refine (step_at r (h + 1) h q 1 kk ws5 st5 ms5 wr hR5 (unhide HG5) t0 (by omega)).mono ?_
                        rintro e w32 ⟨rfl, ⟨st', v0, v1, hR6, hG6⟩, hF6⟩
                        have hB6 := hF6.belowAt hB5 (by omega) (Nat.le_refl _) z5 hz5
                        have hz32 := hF6.size
                        rw [unhide HT]
                        unfold Mach.told
                        rw [unhide HG3]
                        generalize (M5.step ws5).1.sA = vA at *
                        generalize (M5.step ws5).1.sB = vB at *
                        generalize (M5.step ws5).1.tries = vT at *
                        go_wp2_with fail
                        have hR7 := hR6.alloc (.cells #[.bool true, .int .i64 vA, .int .i64 vB, .int .i64 vT] 33)
                        have hB7 := hB6.alloc (by omega) (.cells #[.bool true, .int .i64 vA, .int .i64 vB, .int .i64 vT] 33)
                        have y0 := cell_of (putAll (w := w32) (.cells #[.bool true, .int .i64 vA, .int .i64 vB, .int .i64 vT] 33) w32.heap.size rfl) 0
                        have z33 : w32.heap.size < (w32.alloc (.cells #[.bool true, .int .i64 vA, .int .i64 vB, .int .i64 vT] 33)).heap.size := by simp
                        generalize w32.alloc (.cells #[.bool true, .int .i64 vA, .int .i64 vB, .int .i64 vT] 33) = w33 at *
                        simp at y0
                        refine (hR7.words).mono ?_
                        rintro e w34 ⟨rfl, hW34, hB34⟩
                        have hz34 := hB34.size
                        have x34 := word_cell hW34 0 (by rw [hR7.sys.wlen]; omega)
                        rw [unhide HG4] at x34
                        have B34 : Below h w1 w34 := hB7.trans (hB34.mono (by omega))
                        clear hW34 hR7 hR6 hB6 hB7 hB34 y0
                        go_wp2_with fail
                        refine (known_true _).mono ?_
                        rintro e w35 ⟨rfl, hB35⟩
                        go_wp2_with fail
                        go_ret
                        exact ⟨rfl, by rw [unhide HH]; exact B34.trans (hB35.mono (by omega))⟩

set_option maxRecDepth 100000 in
theorem lifted (os : Os) (started : os.Started) (H : Type) (enc : TypeId × Value → H) :
    ReturnsInHanded {} Try.checked os 6 .any (Rows.spinLocksSpec.pre6 enc Try.prog Try.f6 Rows.spinLocksRow.domain false) (Rows.spinLocksSpec.post enc Try.prog Try.f6 false true false false) := by
  refine returnsInHanded_of_change (C := Try.checked) own started (by kernel_rfl) Try.func6
    (ChangeSpec.witness6 (enc := enc) (C := Try.checked) false ⟨#[], #[.int .i64 0, .int .i64 0, .slice none 0 0, .int .i64 0], []⟩ 8 (by kernel_rfl) (by kernel_rfl) (by kernel_rfl) (by kernel_rfl)) ?_
  intro W base args ds gs before hval0 hW hcnd _
  have hval : ∀ (j : Nat) t v, Try.f6.params[j]? = some t → args[j]? = some v → Value.okWide Try.prog W .any base t v := hval0
  have hW' := hW
  obtain ⟨p, q, hA0, hV, rfl, hfz, hnd⟩ := hW
  have hA : DataW.TrodAll enc Try.prog W 0 (fun _ => true) true Try.f6.params.toList args.toList ds p := hA0
  rw [Try.params6] at hA hval
  obtain ⟨v0, vs0, d0, ds0, p0, q0, hargs, rfl, rfl, h0, r0⟩ := trodAll_cons hA
  obtain ⟨v1, vs1, d1, ds1, p1, q1, rfl, rfl, rfl, h1, r1⟩ := trodAll_cons r0
  obtain ⟨v2, vs2, d2, ds2, p2, q2, rfl, rfl, rfl, h2, r2⟩ := trodAll_cons r1
  obtain ⟨v3, vs3, d3, ds3, p3, q3, rfl, rfl, rfl, h3, r3⟩ := trodAll_cons r2
  obtain ⟨rfl, rfl, rfl⟩ := trodAll_nil r3
  obtain rfl : args = #[v0, v1, v2, v3] := by cases args; simp_all
  obtain ⟨rfl, rfl⟩ := trodVars_none hV
  obtain ⟨a0, rfl, rfl, rfl, w0⟩ := open_int Try.underlying3 (hval 0 3 v0 rfl rfl) h0
  obtain ⟨a1, rfl, rfl, rfl, w1⟩ := open_int Try.underlying3 (hval 1 3 v1 rfl rfl) h1
  obtain ⟨a2, len2, cap2, rfl⟩ := okWide_slice Try.underlying41 (hval 2 41 v2 rfl rfl)
  have k2 := h2
  have lt2 : ∀ x ∈ p2, x.block < W.heap.size := by obtain ⟨m, hm⟩ := k2; exact DataW.trod_lt m _ _ _ hm
  obtain ⟨z2, w2⟩ : ∃ zs, IsRow .i64 W a2 len2 cap2 zs := by
    obtain ⟨fuel, hf⟩ := h2
    rcases open_ints Try.underlying41 Try.underlying3 (by kernel_rfl) hf with ⟨hcs, _⟩ | ⟨x, l, c, zs, hcs, _, hl, hm, hz, _, hcell, hwz⟩
    · simp [Value.cells] at hcs
      obtain ⟨rfl, rfl, rfl⟩ := hcs
      exact ⟨[], .inl ⟨rfl, rfl, rfl, rfl⟩⟩
    · simp [Value.cells] at hcs
      obtain ⟨rfl, rfl, rfl⟩ := hcs
      exact ⟨zs, .inr ⟨_, rfl, hl, hm, by simpa using hz, hcell, hwz⟩⟩
  obtain ⟨a3, rfl, rfl, rfl, w3⟩ := open_int Try.underlying3 (hval 3 3 v3 rfl rfl) h3
  clear hA0 hval0
  refine (walk a0 a1 a2 len2 cap2 a3 W w2.picks (wf_bounds w3).1 (wf_bounds w3).2).mono fun e W' ⟨he, bel⟩ => ?_
  subst he
  exact ⟨_, rfl, _, _, _, [], _, [], hW', trodAll_mk1 (shut_bool Try.underlying4 _), (trodAll_cons_mk (shut_int Try.underlying3 w0) (trodAll_cons_mk (shut_int Try.underlying3 w1) (trodAll_cons_mk (Below.trod laidOut (by kernel_rfl) (of_decide_eq_true (by kernel_rfl)) k2 bel lt2) (trodAll_cons_mk (shut_int Try.underlying3 w3) trodAll_mk0)))), rfl, bel.frame _, fun h => by cases h⟩

theorem over : Rows.spinLocksRow.holds Try.pinned (OpenSpec.ofChange Rows.spinLocksSpec) :=
  OpenClaim.holds_of_wide 6 Try.f6 rfl rfl rfl rfl rfl rfl rfl ⟨rfl, rfl, rfl, rfl, rfl⟩ rfl rfl rfl rfl rfl (by kernel_rfl) Try.func6 (by kernel_rfl)
    (of_decide_eq_true (by kernel_rfl)) (by unfold Func.isWrapper; first | (rw [if_pos (by decide +kernel)]; kernel_rfl) | (rw [if_neg (by decide +kernel)]; exact ⟨rfl, rfl⟩))
    (fun os started H enc _ => lifted os started H enc)

end Go.Proofs.Ytkgeapmafpeapaa.spinLocks

namespace Go.Proofs.Ytkgeapmafpeapaa
/-- SpinLocks answers true. -/
theorem spinLocks_proved : Rows.SpinLocksSaid := spinLocks.over
#print axioms spinLocks_proved
end Go.Proofs.Ytkgeapmafpeapaa
