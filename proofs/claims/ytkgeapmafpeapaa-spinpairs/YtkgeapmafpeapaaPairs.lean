/-
  SpinPairs: readers of a pair that writers write have read what stood together, whatever is picked. No conditions.
-/
import Derived.Test.YtkgeapmafpeapaaPairsE
import Derived.ProofKit
import Derived.OpenShut
import Derived.ShutString
import Derived.ChangeOld
namespace Go.Proofs.Ytkgeapmafpeapaa.spinPairs
open Go.ChangeShapes Go.WideShapes Go.ChangeAt Go.RowKit
attribute [local go_sem ↓] Go.wp_at_zero Go.wp_at_succ
set_option linter.unusedVariables false

theorem own : ownKnob Try.prog.godebug = none := by kernel_rfl
theorem laidOut : laidOutB Try.prog = true := by kernel_rfl

/-- What the frame tells of a slice of integers. -/
def IsRow (k : IntKind) (w : World) (a : Option Addr) (len cap : Nat) (zs : List Int) : Prop :=
  (a = none ∧ len = 0 ∧ cap = 0 ∧ zs = []) ∨
  ∃ x, a = some x ∧ len ≤ cap ∧ cap ≤ maxLen ∧ zs.length = cap ∧ (∀ i, i < zs.length → w.cell? (x.add i) = some (.int k (zs.getD i 0))) ∧ ∀ n ∈ zs, (Lit.int k n).wf = true


theorem IsRow.picks {w : World} {a : Option Addr} {len cap : Nat} {zs : List Int} (h : IsRow .i64 w a len cap zs) : Picks w a len := by
  rcases h with ⟨rfl, rfl, rfl, rfl⟩ | ⟨x, rfl, hl, hm, hz, hc, hw⟩
  · exact ⟨Nat.zero_le _, fun i hi => absurd hi (Nat.not_lt_zero _)⟩
  · refine ⟨Nat.le_trans hl hm, fun i hi => ?_⟩
    have hiz : i < zs.length := by omega
    have c := hc i hiz
    have c0 := hc 0 (by omega)
    obtain ⟨b, off, sp⟩ := x
    have e : (⟨b, off, sp⟩ : Addr).add 0 = ⟨b, off, sp⟩ := rfl
    rw [e] at c0
    obtain rfl := spot_none c0
    rw [addr_add] at c
    have hb := wf_bounds (hw (zs.getD i 0) (by rw [List.getD_eq_getElem?_getD, List.getElem?_eq_getElem hiz]; exact List.getElem_mem hiz))
    exact ⟨b, off, zs.getD i 0, rfl, cell_lt c, c, hb.1, hb.2⟩

set_option maxRecDepth 100000 in
set_option maxHeartbeats 4000000 in
theorem walk (a0 a1 a2 : Int) (a3 : Option Addr) (len3 cap3 : Nat) (w : World) (hp : Picks w a3 len3) :
    Calls Try.prog 5 #[.int .i64 a0, .int .i64 a1, .int .i64 a2, .slice a3 len3 cap3] w fun e w' => e = .returned (.bool true) ∧ Below w.heap.size w w' := by
  obtain ⟨i0, hi, hz0, hz1, hz2⟩ := info_parts info30
  obtain ⟨hml2, hrow⟩ := hp
  unfold maxLen at hml2
  obtain ⟨wk, wk0, wk1, hwk⟩ := within_det a2 5 (by omega) (by omega)
  obtain ⟨W, rfl⟩ := Int.eq_ofNat_of_zero_le wk0
  have HWK := hide hwk
  have HR := hide hrow
  clear hrow hwk
  go_enter Try.func5, Try.ntmps5
  go_wp2_with fail
  refine (within_any a0 4 _ (by omega) (by omega)).mono ?_
  rintro e w1 ⟨⟨n0, p0, p1, rfl⟩, rfl⟩
  go_wp2_with fail
  refine (within_any a1 3 _ (by omega) (by omega)).mono ?_
  rintro e w1 ⟨⟨n1, q0, q1, rfl⟩, rfl⟩
  obtain ⟨nw, rfl⟩ := Int.eq_ofNat_of_zero_le p0
  obtain ⟨nr, rfl⟩ := Int.eq_ofNat_of_zero_le q0
  clear p0 q0 wk0
  have hW5 : W ≤ 5 := by omega
  have nw4 : nw ≤ 4 := by omega
  have nr3 : nr ≤ 3 := by omega
  go_wp2_with fail
  refine (new3 _).mono ?_
  rintro e w2 ⟨rfl, hM2, hB2⟩
  have z2 := hB2.size
  have b2 := hM2.blt
  generalize hh : w1.heap.size = h at *
  have HH := hide hh
  clear hh
  generalize hg : w2.heap.size = g at *
  have HG := hide hg
  clear hg
  go_wp2_with fail
  go_loopw [11, 12] (fun v i wr => ∃ k : Nat, k ≤ nw + nr ∧ i = .int .i64 k ∧ wr.ownsRow g 30 5 v k (rowsOf Jb.row (pjobs nw W k)) ∧ Below g w2 wr ∧ g ≤ wr.heap.size) (fun _ i _ => nw + nr - (intOf i).toNat)
  case atStart => exact ⟨0, Nat.zero_le _, rfl, World.ownsRow_nil _ _ _ _, Below.refl _ _, by rw [unhide HG]; omega⟩
  case round =>
    obtain ⟨k, hk, rfl, hown, hB, hs⟩ := hrel
    by_cases hkn : k < nw + nr
    · have j1 : (k : Int) < (nw : Int) + (nr : Int) := by omega
      have hk7 : (k : Int) ≤ 7 := by omega
      go_wp2_with fail
      refine (unhide HWK _).mono ?_
      rintro e wr ⟨rfl, rfl⟩
      by_cases hkw : k < nw
      · have j2 : (k : Int) < (nw : Int) := by omega
        have ej : jobAt nw W k = ⟨2, 0, W, 10 + (k : Int), 110 + (k : Int)⟩ := if_pos hkw
        have EJ := hide ej
        clear ej
        go_wp2_with fail
        refine (unhide HWK _).mono ?_
        rintro e w6 ⟨rfl, rfl⟩
        go_wp2_with (first
          | (at_builtin; refine wpList_append_own _ rfl _ _ 31 rfl g 30 i0 (.agg #[.int .i64 0, .int .i64 0, .int .i64 0, .int .i64 0, .int .i64 0]) 5 40 Try.underlying31 hi hz0 hz1 hz2 rfl (by decide) _ _ _ rfl ((hown.alloc _).alloc _) ⟨wr.heap.size + 1, 0, none⟩ 1 1 [.int .i64 2, .int .i64 0, .int .i64 W, .int .i64 (10 + (k : Int)), .int .i64 (110 + (k : Int))] rfl rfl ?c1 ?c2 ?c3 ?c4 ?c5 ?_))
        case c1 =>
          intro j u hj
          match j, hj with
          | 0, hj => simp at hj; subst hj; simp [Addr.add]
          | 1, hj => simp at hj; subst hj; simp [Addr.add]
          | 2, hj => simp at hj; subst hj; simp [Addr.add]
          | 3, hj => simp at hj; subst hj; simp [Addr.add]
          | 4, hj => simp at hj; subst hj; simp [Addr.add]
        case c2 => intro u hu; simp at hu; rcases hu with rfl | rfl | rfl | rfl | rfl <;> rfl
        case c3 => unfold maxLen; omega
        case c4 => omega
        case c5 => simp; omega
        intro v' w3 hown' hgrow _
        have hB1 := grown_below (hB.alloc hs _) (hown.alloc _) hgrow (by simp; omega)
        have hs1 : g ≤ w3.heap.size := by have := hgrow.size; simp at this; omega
        have hown1 : w3.ownsRow g 30 5 v' (k + 1) (rowsOf Jb.row (pjobs nw W (k + 1))) := by
          rw [pjobs_succ, rows_snoc, unhide EJ]; exact hown'
        have HO := hide hown1
        clear hown' hgrow hown hown1
        go_wp2_with fail
        go_roundw
        case rel => exact ⟨k + 1, by omega, by go_num, unhide HO, hB1, hs1⟩
        case measure => simp [intOf]; omega
      · have j2 : ¬ (k : Int) < (nw : Int) := by omega
        have ej : jobAt nw W k = ⟨3, 0, W, 0, 0⟩ := if_neg hkw
        have EJ := hide ej
        clear ej
        go_wp2_with (first
          | (at_builtin; refine wpList_append_own _ rfl _ _ 31 rfl g 30 i0 (.agg #[.int .i64 0, .int .i64 0, .int .i64 0, .int .i64 0, .int .i64 0]) 5 40 Try.underlying31 hi hz0 hz1 hz2 rfl (by decide) _ _ _ rfl ((hown.alloc _).alloc _) ⟨wr.heap.size + 1, 0, none⟩ 1 1 [.int .i64 3, .int .i64 0, .int .i64 W, .int .i64 0, .int .i64 0] rfl rfl ?c1 ?c2 ?c3 ?c4 ?c5 ?_))
        case c1 =>
          intro j u hj
          match j, hj with
          | 0, hj => simp at hj; subst hj; simp [Addr.add]
          | 1, hj => simp at hj; subst hj; simp [Addr.add]
          | 2, hj => simp at hj; subst hj; simp [Addr.add]
          | 3, hj => simp at hj; subst hj; simp [Addr.add]
          | 4, hj => simp at hj; subst hj; simp [Addr.add]
        case c2 => intro u hu; simp at hu; rcases hu with rfl | rfl | rfl | rfl <;> rfl
        case c3 => unfold maxLen; omega
        case c4 => omega
        case c5 => simp; omega
        intro v' w3 hown' hgrow _
        have hB1 := grown_below (hB.alloc hs _) (hown.alloc _) hgrow (by simp; omega)
        have hs1 : g ≤ w3.heap.size := by have := hgrow.size; simp at this; omega
        have hown1 : w3.ownsRow g 30 5 v' (k + 1) (rowsOf Jb.row (pjobs nw W (k + 1))) := by
          rw [pjobs_succ, rows_snoc, unhide EJ]; exact hown'
        have HO := hide hown1
        clear hown' hgrow hown hown1
        go_wp2_with fail
        go_roundw
        case rel => exact ⟨k + 1, by omega, by go_num, unhide HO, hB1, hs1⟩
        case measure => simp [intOf]; omega
    · obtain rfl : k = nw + nr := by omega
      clear hkn hk
      have hM3 := hM2.below (by rw [unhide HG]; exact hB)
      obtain ⟨pa, cap, rfl, hJ, hJb⟩ := JobsAt.of_ownsB (pjobs_length nw W (nw + nr)) hown
      have hB3 : Below h w1 wr := hB2.trans (hB.mono (by omega))
      have zz : h ≤ wr.heap.size := by omega
      have b3 := hM3.blt
      have c3 := hM3.clt
      clear hown hM2 hB2 hB
      generalize hnn : nw + nr = n at *
      have HNN := hide hnn
      have n7 : n ≤ 7 := by omega
      go_wp2_with fail
      refine (store_h (h + 1) h 3 2 [0, 0, 0] 0 0 0 0 0 false 100 wr hM3 (by omega) (by omega) (by omega) _ rfl).mono ?_
      rintro e w3 ⟨rfl, hM4, hF4⟩
      replace hM4 : Mem w3 (h + 1) h 3 [0, 0, 100] 1 2 2 0 100 true := hM4
      have hJ4 := hJ.frm hF4 (fun a ha => by have := hJb a ha; omega)
      have hB4 : Below h w1 w3 := hB3.trans (hF4.below (by omega) (Nat.le_refl _) zz)
      have z4 : h ≤ w3.heap.size := by have := hF4.size; omega
      clear hJ hJb hM3 hB3 hF4 hnn
      go_wp2_with fail
      have hfit : ∀ (i : Nat) (j : Jb), (pjobs nw W n)[i]? = some j → j.fit ((3 : Nat) : Int) := fun i j hj => pjobs_fit hW5 hj
      refine (new_goodL (h + 1) h 3 n _ 1 _ _ _ _ _ (pjobs nw W n) (pjobs_length nw W n) pa cap w3 hM4 hJ4 hfit (by omega)).mono ?_
      rintro e w4 ⟨r, q, rfl, hr, hq, hR4, hB5'⟩
      have hI0 : PInv nw n W (machs (pjobs nw W n), [0, 0, 100]) := by have := PInv.start nw nr W; rw [unhide HNN] at this; exact this
      have hG0 : Good 3 1 (machs (pjobs nw W n)) := (Good.machs hfit).mono (by omega)
      have hB5 : Below h w1 w4 := hB4.trans (hB5'.mono z4)
      have z5 : h ≤ q := by omega
      generalize machs (pjobs nw W n) = ms0 at *
      clear hfit hM4 hJ4 hB4 hB5' hr hq
      have HI0 := hide hI0
      have HG0 := hide hG0
      clear hI0 hG0
      go_wp2_with fail
      go_loopw [16] (fun i wq => ∃ (t : Nat) (ms : List Mach) (ws : List Int) (st : Int), i = .int .i64 t ∧ t ≤ 1700 ∧ 0 ≤ st ∧ st ≤ t + 1 ∧ Run wq r (h + 1) h q 3 ws st ms ∧ Good 3 st ms ∧ PInv nw n W (ms, ws) ∧ (300 ≤ t → Left pEv (pDes W) 7 17 1309 (ms, ws) t (t - 300)) ∧ Below h w1 wq) (fun i _ => 2000 - (intOf i).toNat)
      case atStart => exact ⟨0, ms0, [0, 0, 100], 1, rfl, by omega, by omega, by omega, hR4, unhide HG0, unhide HI0, fun x => by omega, hB5⟩
      case round =>
        obtain ⟨t, ms, ws, st, rfl, ht, s0, s1, hR, hGd, hI, hLf, hB⟩ := hrel
        clear HI0 HG0 hR4 hB5
        have hz : h ≤ wr.heap.size := by have := hB.size; rw [unhide HH] at this; exact this
        have HGd := hide hGd
        have HI := hide hI
        have HLf := hide hLf
        clear hGd hI hLf
        have u1 : (t : Int) < 2000 := by omega
        have u2 : (t : Int) ≤ 1700 := by omega
        have u0 : (0 : Int) ≤ (t : Int) := by omega
        by_cases hin : t < len3 ∧ t < 300
        · obtain ⟨h1, h2⟩ := hin
          have j1 : (t : Int) < (len3 : Int) := by omega
          have j2 : (t : Int) < 300 := by omega
          obtain ⟨bb, off, x, rfl, hbl, c0, x0, x1⟩ := unhide HR t h1
          replace c0 := (hB.cell (p := ⟨bb, off + t, none⟩) (by show bb < h; exact hbl)).trans c0
          go_wp2_with fail
          refine (pick_x r (h + 1) h q 3 ws st x ms wr hR x0 x1).mono ?_
          rintro e w5 ⟨rfl, hB6⟩
          clear c0
          by_cases ho : opn ms = []
          · have he : (!(opn ms).isEmpty) = false := by rw [ho]; rfl
            rw [he]
            have hz5 := hB6.size
            have hB7 : Below h w1 w5 := hB.trans (hB6.mono hz)
            have hR5 := hR.below hB6
            have hfin := PInv.fin (by have := unhide HI; rw [← unhide HNN] at this; exact this) ho
            simp only [] at hfin
            have hpb := (unhide HI).pb
            simp only [] at hpb
            obtain ⟨fc, fq⟩ := hfin
            have HFC := hide fc
            have HFQ := hide fq
            have HPB := hide hpb
            have HWL := hide (hR.sys.wlen)
            have HO := hide ho
            clear he ho hB hR hB6 fc fq hpb
            go_wp2_with fail
            refine (all_anyL r (h + 1) h q 3 n ws st ms (unhide HI).len w5 hR5).mono ?_
            rintro e w6 ⟨rfl, hA6, hB8⟩
            have hz6 := hB8.size
            have hB9 : Below h w1 w6 := hB7.trans (hB8.mono (by omega))
            have hR6 := hR5.below hB8
            have l6 : w5.heap.size < w6.heap.size := (Array.getElem?_eq_some_iff.1 hA6).1
            have HA := hide hA6
            clear hA6 hB7 hR5 hB8
            generalize w5.heap.size = y at *
            go_wp2_with fail
            go_loopw [21] (fun i wq => ∃ j m : Nat, j ≤ n ∧ i = .int .i64 j ∧ wq = w6.drewN m) (fun i _ => n - (intOf i).toNat)
            case atStart => exact ⟨0, 0, Nat.zero_le _, rfl, rfl⟩
            case round =>
              obtain ⟨j, m, hj, rfl, rfl⟩ := hrel
              by_cases hjk : j < n
              · have j1 : (j : Int) < (n : Int) := by omega
                have j0 : (0 : Int) ≤ (j : Int) := by omega
                obtain ⟨M, hM⟩ : ∃ M, ms[j]? = some M := ⟨_, List.getElem?_eq_getElem (by have := (unhide HI).len; simp only [] at this; omega)⟩
                obtain ⟨c0, c1, c2⟩ := st_cell (unhide HA) hM
                rw [all_done (unhide HO) hM] at c0
                by_cases hjw : j < nw
                · have j2 : (j : Int) < (nw : Int) := by omega
                  have j3 : ((nw : Int) ≤ (j : Int)) = False := by simp; omega
                  have j4 : (nw ≤ j) = False := by simp; omega
                  clear hM
                  go_wp2_with fail
                  go_quiet (fail)
                  go_wp2_with fail
                  go_roundw
                  case rel => exact ⟨j + 1, m + nq, by omega, by go_num, by simp [World.drewN]⟩
                  case measure => simp [intOf]; omega
                · have j2 : (nw : Int) ≤ (j : Int) := by omega
                  obtain ⟨t1, t2, t3⟩ := ((unhide HI).rd j M hM hjw).told (all_done (unhide HO) hM)
                  have hw64 : wrap64 (M.sA + 100) = M.sA + 100 := by unfold wrap64; omega
                  have e1 : (M.sB != wrap64 (M.sA + 100)) = false := by rw [hw64]; simp [t1]
                  have e2 : (M.sB == wrap64 (M.sA + 100)) = true := by rw [hw64]; simp [t1]
                  clear hw64
                  clear hM t1 t2 t3
                  generalize M.sA = sA at *
                  generalize M.sB = sB at *
                  go_wp2_with fail
                  go_quiet (fail)
                  go_wp2_with fail
                  go_roundw
                  case rel => exact ⟨j + 1, m + nq, by omega, by go_num, by simp [World.drewN]⟩
                  case measure => simp [intOf]; omega
              · obtain rfl : j = n := by omega
                clear hjk
                have hR7 : Run (w6.drewN m) r (h + 1) h q 3 ws st ms := hR6.below ⟨rfl, rfl, rfl, Nat.le_refl _, fun _ _ => rfl⟩
                have hB10 : Below h w1 (w6.drewN m) := hB9.trans ⟨rfl, rfl, rfl, Nat.le_refl _, fun _ _ => rfl⟩
                have z10 : y < (w6.drewN m).heap.size := l6
                clear hR6 hB9
                generalize w6.drewN m = w7 at *
                go_wp2_with fail
                refine (hR7.words).mono ?_
                rintro e w8 ⟨rfl, hW8, hB11⟩
                have hz8 := hB11.size
                have hB12 : Below h w1 w8 := hB10.trans (hB11.mono (by omega))
                have x0 := word_cell hW8 0 (by rw [unhide HWL]; omega)
                have x1 := word_cell hW8 1 (by rw [unhide HWL]; omega)
                have x2 := word_cell hW8 2 (by rw [unhide HWL]; omega)
                rw [unhide HFC] at x0
                rw [unhide HFQ] at x2
                obtain ⟨pb1, pb2⟩ := unhide HPB
                generalize ws.getD 1 0 = pp at *
                have z12 : h ≤ w8.heap.size := by omega
                have eN : ((j : Int) == (nw : Int) + (nr : Int)) = true := by have := unhide HNN; simp; omega
                have eN2 : ((j : Int) == IntKind.i64.wrap ((nw : Int) + (nr : Int))) = true := by have := unhide HNN; rw [wrap_small2 _ (by omega) (by omega)]; simp; omega
                have eC : ((2 * (nw : Int)) == IntKind.i64.wrap (2 * (nw : Int))) = true := by rw [wrap_small2 _ (by omega) (by omega)]; simp
                have eQ : (pp + 100 == IntKind.i64.wrap (pp + 100)) = true := by rw [wrap_small2 _ (by omega) (by omega)]; simp
                have ly0 : w7.heap.size < w8.heap.size := (Array.getElem?_eq_some_iff.1 hW8).1
                have ly : (⟨w7.heap.size, 0, none⟩ : Addr).block < w8.drew.heap.size := ly0
                clear hW8 hR7 hB10 hB11
                generalize w7.heap.size = y2 at *
                go_wp2_with fail
                go_region_held3 (fun w' => w'.cell? ⟨y2, 0, none⟩ = some (.int .i64 (2 * (nw : Int))) ∧ w'.cell? ⟨y2, 1, none⟩ = some (.int .i64 pp) ∧ w'.cell? ⟨y2, 2, none⟩ = some (.int .i64 (pp + 100))) (go_keep)
                  (first | (go_at_call 14; refine (known_true _).mono ?_; rintro e w9 ⟨rfl, hB13⟩; have v0 := (hB13.cell (p := ⟨y2, 0, none⟩) ly).trans x0; have v1 := (hB13.cell (p := ⟨y2, 1, none⟩) ly).trans x1; have v2 := (hB13.cell (p := ⟨y2, 2, none⟩) ly).trans x2))
                go_wp2_with fail
                go_ret
                exact ⟨rfl, by rw [unhide HH]; exact hB12.drew.trans (hB13.mono z12)⟩
          · have he : (!(opn ms).isEmpty) = true := by cases hx : opn ms; exact absurd hx ho; rfl
            rw [he]
            obtain ⟨M, hM, hMd⟩ := mem_opn.1 (picked_mem ho x)
            have hI' := (unhide HI).step (by omega) hM hMd
            have hE : pEv (stepAt ms ws (picked ms x)) ≤ 11 := by
              have := PInv.ev (nw := nw) (nr := nr) (W := W) (S := stepAt ms ws (picked ms x)) (by rw [unhide HNN]; exact hI')
              omega
            have hst : t + 1 = 300 → Left pEv (pDes W) 7 17 1309 (stepAt ms ws (picked ms x)) (t + 1) (t + 1 - 300) := fun e => (pGoes nw n W nw4 n7 hW5).start hI' hE (by omega) (t + 1)
            have hL' : t + 1 ≤ 1700 ∧ (300 ≤ t + 1 → Left pEv (pDes W) 7 17 1309 (stepAt ms ws (picked ms x)) (t + 1) (t + 1 - 300)) := ⟨by omega, fun e => hst (by omega)⟩
            have HI' := hide hI'
            have HL' := hide hL'
            have hz5 := hB6.size
            have hB7 : Below h w1 w5 := hB.trans (hB6.mono hz)
            have hR5 := hR.below hB6
            clear he ho hI' hL' hM hMd hst hE hB hR hB6
            generalize picked ms x = kk at *
            go_wp2_with fail
            refine (step_at r (h + 1) h q 3 kk ws st ms w5 hR5 (unhide HGd) s0 (by omega)).mono ?_
            rintro e w7 ⟨rfl, ⟨st', t0, t1, hR7, hG7⟩, hF7⟩
            have hB8 := hF7.belowAt hB7 (by omega) (Nat.le_refl _) z5 (by omega)
            have HG7 := hide hG7
            clear hG7 hF7 hB7 hR5
            generalize stepAt ms ws kk = N at *
            go_wp2_with fail
            go_roundw
            case rel => exact ⟨t + 1, N.1, N.2, st', by go_num, (unhide HL').1, by omega, by omega, hR7, unhide HG7, unhide HI', (unhide HL').2, hB8⟩
            case measure => simp [intOf]; omega
        · have hex : ¬ (t : Int) < (len3 : Int) ∨ ((t : Int) < (len3 : Int) ∧ ¬ (t : Int) < 300) := by omega
          clear hin
          rcases hex with hx | ⟨hx, hy⟩
          all_goals
            go_wp2_with fail
            refine (pick_at r (h + 1) h q 3 t ws st ms wr hR (by omega)).mono ?_
            rintro e w5 ⟨rfl, hB6⟩
            by_cases ho : opn ms = []
            · have he : (!(opn ms).isEmpty) = false := by rw [ho]; rfl
              rw [he]
              have hz5 := hB6.size
              have hB7 : Below h w1 w5 := hB.trans (hB6.mono hz)
              have hR5 := hR.below hB6
              have hfin := PInv.fin (by have := unhide HI; rw [← unhide HNN] at this; exact this) ho
              simp only [] at hfin
              have hpb := (unhide HI).pb
              simp only [] at hpb
              obtain ⟨fc, fq⟩ := hfin
              have HFC := hide fc
              have HFQ := hide fq
              have HPB := hide hpb
              have HWL := hide (hR.sys.wlen)
              have HO := hide ho
              clear he ho hB hR hB6 fc fq hpb
              go_wp2_with fail
              refine (all_anyL r (h + 1) h q 3 n ws st ms (unhide HI).len w5 hR5).mono ?_
              rintro e w6 ⟨rfl, hA6, hB8⟩
              have hz6 := hB8.size
              have hB9 : Below h w1 w6 := hB7.trans (hB8.mono (by omega))
              have hR6 := hR5.below hB8
              have l6 : w5.heap.size < w6.heap.size := (Array.getElem?_eq_some_iff.1 hA6).1
              have HA := hide hA6
              clear hA6 hB7 hR5 hB8
              generalize w5.heap.size = y at *
              go_wp2_with fail
              go_loopw [21] (fun i wq => ∃ j m : Nat, j ≤ n ∧ i = .int .i64 j ∧ wq = w6.drewN m) (fun i _ => n - (intOf i).toNat)
              case atStart => exact ⟨0, 0, Nat.zero_le _, rfl, rfl⟩
              case round =>
                obtain ⟨j, m, hj, rfl, rfl⟩ := hrel
                by_cases hjk : j < n
                · have j1 : (j : Int) < (n : Int) := by omega
                  have j0 : (0 : Int) ≤ (j : Int) := by omega
                  obtain ⟨M, hM⟩ : ∃ M, ms[j]? = some M := ⟨_, List.getElem?_eq_getElem (by have := (unhide HI).len; simp only [] at this; omega)⟩
                  obtain ⟨c0, c1, c2⟩ := st_cell (unhide HA) hM
                  rw [all_done (unhide HO) hM] at c0
                  by_cases hjw : j < nw
                  · have j2 : (j : Int) < (nw : Int) := by omega
                    have j3 : ((nw : Int) ≤ (j : Int)) = False := by simp; omega
                    have j4 : (nw ≤ j) = False := by simp; omega
                    clear hM
                    go_wp2_with fail
                    go_quiet (fail)
                    go_wp2_with fail
                    go_roundw
                    case rel => exact ⟨j + 1, m + nq, by omega, by go_num, by simp [World.drewN]⟩
                    case measure => simp [intOf]; omega
                  · have j2 : (nw : Int) ≤ (j : Int) := by omega
                    obtain ⟨t1, t2, t3⟩ := ((unhide HI).rd j M hM hjw).told (all_done (unhide HO) hM)
                    have hw64 : wrap64 (M.sA + 100) = M.sA + 100 := by unfold wrap64; omega
                    have e1 : (M.sB != wrap64 (M.sA + 100)) = false := by rw [hw64]; simp [t1]
                    have e2 : (M.sB == wrap64 (M.sA + 100)) = true := by rw [hw64]; simp [t1]
                    clear hw64
                    clear hM t1 t2 t3
                    generalize M.sA = sA at *
                    generalize M.sB = sB at *
                    go_wp2_with fail
                    go_quiet (fail)
                    go_wp2_with fail
                    go_roundw
                    case rel => exact ⟨j + 1, m + nq, by omega, by go_num, by simp [World.drewN]⟩
                    case measure => simp [intOf]; omega
                · obtain rfl : j = n := by omega
                  clear hjk
                  have hR7 : Run (w6.drewN m) r (h + 1) h q 3 ws st ms := hR6.below ⟨rfl, rfl, rfl, Nat.le_refl _, fun _ _ => rfl⟩
                  have hB10 : Below h w1 (w6.drewN m) := hB9.trans ⟨rfl, rfl, rfl, Nat.le_refl _, fun _ _ => rfl⟩
                  have z10 : y < (w6.drewN m).heap.size := l6
                  clear hR6 hB9
                  generalize w6.drewN m = w7 at *
                  go_wp2_with fail
                  refine (hR7.words).mono ?_
                  rintro e w8 ⟨rfl, hW8, hB11⟩
                  have hz8 := hB11.size
                  have hB12 : Below h w1 w8 := hB10.trans (hB11.mono (by omega))
                  have x0 := word_cell hW8 0 (by rw [unhide HWL]; omega)
                  have x1 := word_cell hW8 1 (by rw [unhide HWL]; omega)
                  have x2 := word_cell hW8 2 (by rw [unhide HWL]; omega)
                  rw [unhide HFC] at x0
                  rw [unhide HFQ] at x2
                  obtain ⟨pb1, pb2⟩ := unhide HPB
                  generalize ws.getD 1 0 = pp at *
                  have z12 : h ≤ w8.heap.size := by omega
                  have eN : ((j : Int) == (nw : Int) + (nr : Int)) = true := by have := unhide HNN; simp; omega
                  have eN2 : ((j : Int) == IntKind.i64.wrap ((nw : Int) + (nr : Int))) = true := by have := unhide HNN; rw [wrap_small2 _ (by omega) (by omega)]; simp; omega
                  have eC : ((2 * (nw : Int)) == IntKind.i64.wrap (2 * (nw : Int))) = true := by rw [wrap_small2 _ (by omega) (by omega)]; simp
                  have eQ : (pp + 100 == IntKind.i64.wrap (pp + 100)) = true := by rw [wrap_small2 _ (by omega) (by omega)]; simp
                  have ly0 : w7.heap.size < w8.heap.size := (Array.getElem?_eq_some_iff.1 hW8).1
                  have ly : (⟨w7.heap.size, 0, none⟩ : Addr).block < w8.drew.heap.size := ly0
                  clear hW8 hR7 hB10 hB11
                  generalize w7.heap.size = y2 at *
                  go_wp2_with fail
                  go_region_held3 (fun w' => w'.cell? ⟨y2, 0, none⟩ = some (.int .i64 (2 * (nw : Int))) ∧ w'.cell? ⟨y2, 1, none⟩ = some (.int .i64 pp) ∧ w'.cell? ⟨y2, 2, none⟩ = some (.int .i64 (pp + 100))) (go_keep)
                    (first | (go_at_call 14; refine (known_true _).mono ?_; rintro e w9 ⟨rfl, hB13⟩; have v0 := (hB13.cell (p := ⟨y2, 0, none⟩) ly).trans x0; have v1 := (hB13.cell (p := ⟨y2, 1, none⟩) ly).trans x1; have v2 := (hB13.cell (p := ⟨y2, 2, none⟩) ly).trans x2))
                  go_wp2_with fail
                  go_ret
                  exact ⟨rfl, by rw [unhide HH]; exact hB12.drew.trans (hB13.mono z12)⟩
            · have he : (!(opn ms).isEmpty) = true := by cases hx : opn ms; exact absurd hx ho; rfl
              rw [he]
              obtain ⟨M, hM, hMd⟩ := mem_opn.1 (pk_mem ho t)
              have hI' := (unhide HI).step (by omega) hM hMd
              have hE : pEv (stepAt ms ws (pk ms t)) ≤ 11 := by
                have := PInv.ev (nw := nw) (nr := nr) (W := W) (S := stepAt ms ws (pk ms t)) (by rw [unhide HNN]; exact hI')
                omega
              have hst : t + 1 = 300 → Left pEv (pDes W) 7 17 1309 (stepAt ms ws (pk ms t)) (t + 1) (t + 1 - 300) := fun e => (pGoes nw n W nw4 n7 hW5).start hI' hE (by omega) (t + 1)
              have hL' : t + 1 ≤ 1700 ∧ (300 ≤ t + 1 → Left pEv (pDes W) 7 17 1309 (stepAt ms ws (pk ms t)) (t + 1) (t + 1 - 300)) := by
                by_cases h300 : 300 ≤ t
                · obtain ⟨hlt, hnext⟩ := (pGoes nw n W nw4 n7 hW5).next (unhide HI) (unhide HLf h300) ho
                  simp only [] at hnext
                  refine ⟨by omega, fun _ => ?_⟩
                  rw [show t + 1 - 300 = t - 300 + 1 by omega]
                  exact hnext
                · exact ⟨by omega, fun e => hst (by omega)⟩
              have HI' := hide hI'
              have HL' := hide hL'
              have hz5 := hB6.size
              have hB7 : Below h w1 w5 := hB.trans (hB6.mono hz)
              have hR5 := hR.below hB6
              clear he ho hI' hL' hM hMd hst hE hB hR hB6
              generalize pk ms t = kk at *
              go_wp2_with fail
              refine (step_at r (h + 1) h q 3 kk ws st ms w5 hR5 (unhide HGd) s0 (by omega)).mono ?_
              rintro e w7 ⟨rfl, ⟨st', t0, t1, hR7, hG7⟩, hF7⟩
              have hB8 := hF7.belowAt hB7 (by omega) (Nat.le_refl _) z5 (by omega)
              have HG7 := hide hG7
              clear hG7 hF7 hB7 hR5
              generalize stepAt ms ws kk = N at *
              go_wp2_with fail
              go_roundw
              case rel => exact ⟨t + 1, N.1, N.2, st', by go_num, (unhide HL').1, by omega, by omega, hR7, unhide HG7, unhide HI', (unhide HL').2, hB8⟩
              case measure => simp [intOf]; omega

set_option maxRecDepth 100000 in
theorem lifted (os : Os) (started : os.Started) (H : Type) (enc : TypeId × Value → H) :
    ReturnsInHanded {} Try.checked os 5 .any (Rows.spinPairsSpec.pre6 enc Try.prog Try.f5 Rows.spinPairsRow.domain false) (Rows.spinPairsSpec.post enc Try.prog Try.f5 false true false false) := by
  refine returnsInHanded_of_change (C := Try.checked) own started (by kernel_rfl) Try.func5
    (ChangeSpec.witness6 (enc := enc) (C := Try.checked) false ⟨#[], #[.int .i64 0, .int .i64 0, .int .i64 0, .slice none 0 0], []⟩ 8 (by kernel_rfl) (by kernel_rfl) (by kernel_rfl) (by kernel_rfl)) ?_
  intro W base args ds gs before hval0 hW hcnd _
  have hval : ∀ (j : Nat) t v, Try.f5.params[j]? = some t → args[j]? = some v → Value.okWide Try.prog W .any base t v := hval0
  have hW' := hW
  obtain ⟨p, q, hA0, hV, rfl, hfz, hnd⟩ := hW
  have hA : DataW.TrodAll enc Try.prog W 0 (fun _ => true) true Try.f5.params.toList args.toList ds p := hA0
  rw [Try.params5] at hA hval
  obtain ⟨v0, vs0, d0, ds0, p0, q0, hargs, rfl, rfl, h0, r0⟩ := trodAll_cons hA
  obtain ⟨v1, vs1, d1, ds1, p1, q1, rfl, rfl, rfl, h1, r1⟩ := trodAll_cons r0
  obtain ⟨v2, vs2, d2, ds2, p2, q2, rfl, rfl, rfl, h2, r2⟩ := trodAll_cons r1
  obtain ⟨v3, vs3, d3, ds3, p3, q3, rfl, rfl, rfl, h3, r3⟩ := trodAll_cons r2
  obtain ⟨rfl, rfl, rfl⟩ := trodAll_nil r3
  obtain rfl : args = #[v0, v1, v2, v3] := by cases args; simp_all
  obtain ⟨rfl, rfl⟩ := trodVars_none hV
  obtain ⟨a0, rfl, rfl, rfl, w0⟩ := open_int Try.underlying3 (hval 0 3 v0 rfl rfl) h0
  obtain ⟨a1, rfl, rfl, rfl, w1⟩ := open_int Try.underlying3 (hval 1 3 v1 rfl rfl) h1
  obtain ⟨a2, rfl, rfl, rfl, w2⟩ := open_int Try.underlying3 (hval 2 3 v2 rfl rfl) h2
  obtain ⟨a3, len3, cap3, rfl⟩ := okWide_slice Try.underlying41 (hval 3 41 v3 rfl rfl)
  have k3 := h3
  have lt3 : ∀ x ∈ p3, x.block < W.heap.size := by obtain ⟨m, hm⟩ := k3; exact DataW.trod_lt m _ _ _ hm
  obtain ⟨z3, w3⟩ : ∃ zs, IsRow .i64 W a3 len3 cap3 zs := by
    obtain ⟨fuel, hf⟩ := h3
    rcases open_ints Try.underlying41 Try.underlying3 (by kernel_rfl) hf with ⟨hcs, _⟩ | ⟨x, l, c, zs, hcs, _, hl, hm, hz, _, hcell, hwz⟩
    · simp [Value.cells] at hcs
      obtain ⟨rfl, rfl, rfl⟩ := hcs
      exact ⟨[], .inl ⟨rfl, rfl, rfl, rfl⟩⟩
    · simp [Value.cells] at hcs
      obtain ⟨rfl, rfl, rfl⟩ := hcs
      exact ⟨zs, .inr ⟨_, rfl, hl, hm, by simpa using hz, hcell, hwz⟩⟩
  clear hA0 hval0
  refine (walk a0 a1 a2 a3 len3 cap3 W w3.picks).mono fun e W' ⟨he, bel⟩ => ?_
  subst he
  exact ⟨_, rfl, _, _, _, [], _, [], hW', trodAll_mk1 (shut_bool Try.underlying4 _), (trodAll_cons_mk (shut_int Try.underlying3 w0) (trodAll_cons_mk (shut_int Try.underlying3 w1) (trodAll_cons_mk (shut_int Try.underlying3 w2) (trodAll_cons_mk (Below.trod laidOut (by kernel_rfl) (of_decide_eq_true (by kernel_rfl)) k3 bel lt3) trodAll_mk0)))), rfl, bel.frame _, fun h => by cases h⟩

theorem over : Rows.spinPairsRow.holds Try.pinned (OpenSpec.ofChange Rows.spinPairsSpec) :=
  OpenClaim.holds_of_wide 5 Try.f5 rfl rfl rfl rfl rfl rfl rfl ⟨rfl, rfl, rfl, rfl, rfl⟩ rfl rfl rfl rfl rfl (by kernel_rfl) Try.func5 (by kernel_rfl)
    (of_decide_eq_true (by kernel_rfl)) (by unfold Func.isWrapper; first | (rw [if_pos (by decide +kernel)]; kernel_rfl) | (rw [if_neg (by decide +kernel)]; exact ⟨rfl, rfl⟩))
    (fun os started H enc _ => lifted os started H enc)

end Go.Proofs.Ytkgeapmafpeapaa.spinPairs

namespace Go.Proofs.Ytkgeapmafpeapaa
/-- SpinPairs answers true. -/
theorem spinPairs_proved : Rows.SpinPairsSaid := spinPairs.over
#print axioms spinPairs_proved
end Go.Proofs.Ytkgeapmafpeapaa
