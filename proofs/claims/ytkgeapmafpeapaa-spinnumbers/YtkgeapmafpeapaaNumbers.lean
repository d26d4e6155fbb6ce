/-
  SpinNumbers: chapter 2's runs. No conditions.
-/
import Derived.Test.YtkgeapmafpeapaaLocksA
import Derived.ProofKit
import Derived.OpenShut
import Derived.ChangeOld
namespace Go.Proofs.Ytkgeapmafpeapaa.spinNumbers
open Go.ChangeShapes Go.WideShapes Go.ChangeAt Go.RowKit
attribute [local go_sem ↓] Go.wp_at_zero Go.wp_at_succ
set_option linter.unusedVariables false

theorem own : ownKnob Try.prog.godebug = none := by kernel_rfl
theorem laidOut : laidOutB Try.prog = true := by kernel_rfl

def two : List Jb := [⟨2, 0, 0, 5, 6⟩, ⟨3, 0, 0, 0, 0⟩]
def twoRun : Nat → State
  | 0 => (machs two, [0, 0, 0, 0])
  | k + 1 => stepAt (twoRun k).1 (twoRun k).2 (k % 2)
theorem two_st : (twoRun 40).1.map Mach.st = [⟨true, 0, 0, 0⟩, ⟨true, 5, 6, 1⟩] := by kernel_rfl
theorem two_len : (twoRun 40).1.length = 2 := by kernel_rfl
theorem two_opn : opn (twoRun 40).1 = [] := by kernel_rfl

theorem new_manyL (b c n l : Nat) (ws : List Int) (st kk aa oo vv : Int) (dd : Bool) (js : List Jb) (hjl : js.length = l) (pa : Option Addr) (cap : Nat) (w : World) (hM : Mem w b c n ws st kk aa oo vv dd) (hJ : JobsAt w pa js) (hl : l ≤ 1000)
    (hfit : ∀ (k : Nat) (j : Jb), js[k]? = some j → j.fit n) (h9 : 8 < l) :
    Calls Try.prog 9 #[.pointer (some ⟨b, 0, none⟩), .slice pa l cap] w fun e w' => e = .returned (.tuple #[.pointer none, .int .i64 4]) ∧ Below w.heap.size w w' := by
  subst hjl
  exact new_many b c n ws st kk aa oo vv dd js pa cap w hM hJ hl hfit h9

def bad1 (j : Jb) : Obj := .cells #[.int .i64 j.kind, .int .i64 j.at_, .int .i64 j.work, .int .i64 j.A, .int .i64 j.B] 30
theorem bad_one (j : Jb) (hb : ¬ j.fit (4 : Nat)) (b c h : Nat) (ws : List Int) (w0 w : World) (hM : Mem w b c 4 ws 0 0 0 0 0 false) (hB : Below h w0 w) (hz : h ≤ w.heap.size) :
    Calls Try.prog 9 #[.pointer (some ⟨b, 0, none⟩), .slice (some ⟨w.heap.size, 0, none⟩) 1 1] (w.alloc (bad1 j)) fun e w' => e = .returned (.tuple #[.pointer none, .int .i64 1]) ∧ Mem w' b c 4 ws 0 0 0 0 0 false ∧ Below h w0 w' ∧ h ≤ w'.heap.size := by
  have hJ : JobsAt (w.alloc (bad1 j)) (some ⟨w.heap.size, 0, none⟩) [j] := JobsAt.of_rows (putAll _ _ rfl) (fun i v h => by simpa [rowsOf, Jb.row, bad1] using h)
  have hM1 := hM.alloc (bad1 j)
  have hB1 := hB.alloc hz (bad1 j)
  refine (new_bad b c 4 0 ws 0 0 0 0 0 false [j] _ 1 _ hM1 hJ (by simp) j rfl hb).mono ?_
  rintro e w' ⟨rfl, hB2⟩
  have z := hB2.size
  have z2 : h ≤ (w.alloc (bad1 j)).heap.size := by simp; omega
  exact ⟨rfl, hM1.below hB2, hB1.trans (hB2.mono z2), by omega⟩

set_option maxRecDepth 100000 in
set_option maxHeartbeats 4000000 in
theorem walk (w : World) : Calls Try.prog 3 #[] w fun e w' => e = .returned (.bool true) ∧ Below w.heap.size w w' := by
  obtain ⟨i0, hi, hz0, hz1, hz2⟩ := info_parts info30
  have hmk := fun w => run_make_struct 31 30 (.agg #[.int .i64 0, .int .i64 0, .int .i64 0, .int .i64 0, .int .i64 0]) 5 40 Try.underlying31 info30 .i64 .i64 9 (by omega) (by omega) w
  have hmr := made_rows Jb.row 5 (by omega) ⟨0, 0, 0, 0, 0⟩ #[.int .i64 0, .int .i64 0, .int .i64 0, .int .i64 0, .int .i64 0] rfl rfl 9
  have hmk2 : ∀ w, (Instr.makeSlice 31 (.int .i64 9) (.int .i64 9)).run Try.prog w = .ok (.slice (some ⟨w.heap.size, 0, none⟩) 9 9) (w.alloc (.cells (rowsOf Jb.row (List.replicate 9 ⟨0, 0, 0, 0, 0⟩)).toArray 30)) := by
    intro w
    rw [← hmr]; exact hmk w
  clear hmk hmr
  go_enter Try.func3, Try.ntmps3
  go_wp2_with fail
  refine (new_nil none 0 0 _).mono ?_
  rintro e w1 ⟨rfl, rfl⟩
  go_wp2_with fail
  refine (new4 _).mono ?_
  rintro e w2 ⟨rfl, hM2, hB2⟩
  have z2 := hB2.size
  generalize hh : w1.heap.size = h at *
  have HH := hide hh
  clear hh
  go_wp2_with fail
  refine (bad_one ⟨2, 2, 0, 0, 0⟩ (by unfold Jb.fit; simp) (h + 1) h h _ w1 w2 hM2 hB2 z2).mono ?_
  rintro e w3 ⟨rfl, hM3, hB3, z3⟩
  clear hM2 hB2 z2
  go_wp2_with fail
  refine (bad_one ⟨4, 0, 0, 0, 0⟩ (by unfold Jb.fit; simp) (h + 1) h h _ w1 w3 hM3 hB3 z3).mono ?_
  rintro e w4 ⟨rfl, hM4, hB4, z4⟩
  clear hM3 hB3 z3
  go_wp2_with fail
  refine (bad_one ⟨1, 0, 101, 0, 0⟩ (by unfold Jb.fit; simp) (h + 1) h h _ w1 w4 hM4 hB4 z4).mono ?_
  rintro e w5 ⟨rfl, hM5, hB5, z5⟩
  clear hM4 hB4 z4
  have hmk3 := hmk2 w5
  clear hmk2
  have hJ5 : JobsAt (w5.alloc (.cells (rowsOf Jb.row (List.replicate 9 ⟨0, 0, 0, 0, 0⟩)).toArray 30)) (some ⟨w5.heap.size, 0, none⟩) (List.replicate 9 ⟨0, 0, 0, 0, 0⟩) := JobsAt.of_rows (putAll _ _ rfl) (fun i v h => by simpa using h)
  have hM6 := hM5.alloc (.cells (rowsOf Jb.row (List.replicate 9 ⟨0, 0, 0, 0, 0⟩)).toArray 30)
  have hB6 := hB5.alloc z5 (.cells (rowsOf Jb.row (List.replicate 9 ⟨0, 0, 0, 0, 0⟩)).toArray 30)
  have z6 : h ≤ (w5.alloc (.cells (rowsOf Jb.row (List.replicate 9 ⟨0, 0, 0, 0, 0⟩)).toArray 30)).heap.size := by simp; omega
  have HJ5 := hide hJ5
  clear hJ5
  generalize (w5.alloc (.cells (rowsOf Jb.row (List.replicate 9 ⟨0, 0, 0, 0, 0⟩)).toArray 30)) = w6 at *
  go_wp2_with fail
  refine (new_bad (h + 1) h 4 0 _ 0 0 0 0 0 false (List.replicate 9 ⟨0, 0, 0, 0, 0⟩) _ 9 _ hM6 (unhide HJ5) (by simp) ⟨0, 0, 0, 0, 0⟩ rfl (by unfold Jb.fit; simp)).mono ?_
  rintro e w7 ⟨rfl, hB7'⟩
  have hM7 := hM6.below hB7'
  have hB7 : Below h w1 w7 := hB6.trans (hB7'.mono z6)
  have z7 : h ≤ w7.heap.size := by have := hB7'.size; omega
  clear hM6 hB6 hM5 hB5 z5 z6 HJ5 hmk3 hB7'
  go_wp2_with fail
  have hJ8 : JobsAt (w7.alloc (.cells #[.int .i64 2, .int .i64 0, .int .i64 0, .int .i64 5, .int .i64 6, .int .i64 3, .int .i64 0, .int .i64 0, .int .i64 0, .int .i64 0] 30)) (some ⟨w7.heap.size, 0, none⟩) two := JobsAt.of_rows (putAll _ _ rfl) (fun i v h => by simpa [rowsOf, Jb.row, two] using h)
  have hM8 := hM7.alloc (.cells #[.int .i64 2, .int .i64 0, .int .i64 0, .int .i64 5, .int .i64 6, .int .i64 3, .int .i64 0, .int .i64 0, .int .i64 0, .int .i64 0] 30)
  have hB8 := hB7.alloc z7 (.cells #[.int .i64 2, .int .i64 0, .int .i64 0, .int .i64 5, .int .i64 6, .int .i64 3, .int .i64 0, .int .i64 0, .int .i64 0, .int .i64 0] 30)
  have z8 : h ≤ (w7.alloc (.cells #[.int .i64 2, .int .i64 0, .int .i64 0, .int .i64 5, .int .i64 6, .int .i64 3, .int .i64 0, .int .i64 0, .int .i64 0, .int .i64 0] 30)).heap.size := by simp; omega
  generalize (w7.alloc (.cells #[.int .i64 2, .int .i64 0, .int .i64 0, .int .i64 5, .int .i64 6, .int .i64 3, .int .i64 0, .int .i64 0, .int .i64 0, .int .i64 0] 30)) = w8 at *
  have hfit : ∀ (i : Nat) (j : Jb), two[i]? = some j → j.fit ((4 : Nat) : Int) := by
    intro i j hj
    match i, hj with
    | 0, hj => simp [two] at hj; subst hj; unfold Jb.fit; simp
    | 1, hj => simp [two] at hj; subst hj; unfold Jb.fit; simp
  refine (new_goodL (h + 1) h 4 2 _ 0 0 0 0 0 false two rfl _ 2 w8 hM8 hJ8 hfit (by omega)).mono ?_
  rintro e w9 ⟨r, q, rfl, hr, hq, hR9, hB9'⟩
  replace hR9 : Run w9 r (h + 1) h q 4 (twoRun 0).2 0 (twoRun 0).1 := hR9
  have hG9 : Good 4 0 (twoRun 0).1 := Good.machs hfit
  have hB9 : Below h w1 w9 := hB8.trans (hB9'.mono z8)
  have z9 : h ≤ w9.heap.size := by have := hB9'.size; omega
  have zq : h ≤ q := by omega
  clear hM7 hM8 hJ8 hB7 hB8 hB9' z7 z8 hfit hr hq
  have HG9 := hide hG9
  clear hG9
  generalize hg : w9.heap.size = g at *
  have HG := hide hg
  clear hg
  go_wp2_with fail
  go_loopw [15, 16] (fun v i wr => ∃ k : Nat, k ≤ 9 ∧ i = .int .i64 k ∧ wr.ownsRow g 30 5 v k (rowsOf Jb.row (List.replicate k ⟨1, 0, 0, 0, 0⟩)) ∧ Below g w9 wr ∧ g ≤ wr.heap.size) (fun _ i _ => 9 - (intOf i).toNat)
  case atStart => exact ⟨0, Nat.zero_le _, rfl, World.ownsRow_nil _ _ _ _, Below.refl _ _, by rw [unhide HG]; omega⟩
  case round =>
    obtain ⟨k, hk, rfl, hown, hB, hs⟩ := hrel
    by_cases hkn : k < 9
    · have j1 : (k : Int) < 9 := by omega
      go_wp2_with (first
        | (at_builtin; refine wpList_append_own _ rfl _ _ 31 rfl g 30 i0 (.agg #[.int .i64 0, .int .i64 0, .int .i64 0, .int .i64 0, .int .i64 0]) 5 40 Try.underlying31 hi hz0 hz1 hz2 rfl (by decide) _ _ _ rfl (hown.alloc _) ⟨wr.heap.size, 0, none⟩ 1 1 [.int .i64 1, .int .i64 0, .int .i64 0, .int .i64 0, .int .i64 0] rfl rfl ?c1 ?c2 ?c3 ?c4 ?c5 ?_))
      case c1 =>
        intro j u hj
        match j, hj with
        | 0, hj => simp at hj; subst hj; simp [Addr.add]
        | 1, hj => simp at hj; subst hj; simp [Addr.add]
        | 2, hj => simp at hj; subst hj; simp [Addr.add]
        | 3, hj => simp at hj; subst hj; simp [Addr.add]
        | 4, hj => simp at hj; subst hj; simp [Addr.add]
      case c2 => intro u hu; simp at hu; rcases hu with rfl | rfl <;> rfl
      case c3 => unfold maxLen; omega
      case c4 => omega
      case c5 => simp; omega
      intro v' w3 hown' hgrow _
      have hB1 := grown_below hB hown hgrow hs
      have hs1 : g ≤ w3.heap.size := by have := hgrow.size; simp at this; omega
      have hown1 : w3.ownsRow g 30 5 v' (k + 1) (rowsOf Jb.row (List.replicate (k + 1) ⟨1, 0, 0, 0, 0⟩)) := by
        rw [List.replicate_succ', rows_snoc]; exact hown'
      have HO := hide hown1
      clear hown' hgrow hown hown1
      go_wp2_with fail
      go_roundw
      case rel => exact ⟨k + 1, by omega, by go_num, unhide HO, hB1, hs1⟩
      case measure => simp [intOf]; omega
    · obtain rfl : k = 9 := by omega
      clear hkn hk
      have hR10 := hR9.below (by rw [unhide HG]; exact hB)
      have hB10 : Below h w1 wr := hB9.trans (hB.mono z9)
      have z10 : h ≤ wr.heap.size := by omega
      obtain ⟨pa, cap, rfl, hJ⟩ := JobsAt.of_ownsL (List.length_replicate) hown
      obtain ⟨m1, m2, m3, m4, m5, hMm⟩ := hR10.sys.mem
      clear hown hR9 hB9 hB hs
      go_wp2_with fail
      have hfit : ∀ (i : Nat) (j : Jb), (List.replicate 9 (⟨1, 0, 0, 0, 0⟩ : Jb))[i]? = some j → j.fit ((4 : Nat) : Int) := by
        intro i j hj
        rw [List.getElem?_replicate] at hj
        split at hj
        · cases hj; unfold Jb.fit; simp
        · cases hj
      refine (new_manyL (h + 1) h 4 9 _ _ _ _ _ _ _ (List.replicate 9 ⟨1, 0, 0, 0, 0⟩) (List.length_replicate) pa cap wr hMm hJ (by omega) hfit (by omega)).mono ?_
      rintro e w11 ⟨rfl, hB11'⟩
      have hz11 := hB11'.size
      have hR11 := hR10.below hB11'
      have hB11 : Below h w1 w11 := hB10.trans (hB11'.mono z10)
      clear hR10 hB10 hMm hJ hB11' hfit
      go_wp2_with fail
      go_loopw [19] (fun i wq => ∃ (k : Nat) (st : Int), k ≤ 40 ∧ i = .int .i64 k ∧ 0 ≤ st ∧ st ≤ k ∧ Run wq r (h + 1) h q 4 (twoRun k).2 st (twoRun k).1 ∧ Good 4 st (twoRun k).1 ∧ Below h w1 wq) (fun i _ => 40 - (intOf i).toNat)
      case atStart => exact ⟨0, 0, by omega, rfl, by omega, by omega, hR11, unhide HG9, hB11⟩
      case round =>
        obtain ⟨k, st, hk, rfl, s0, s1, hR, hGd, hB⟩ := hrel
        clear hR11 hB11
        have hz : h ≤ wr.heap.size := by have := hB.size; rw [unhide HH] at this; exact this
        have HGd := hide hGd
        clear hGd
        by_cases hk40 : k < 40
        · have j1 : (k : Int) < 40 := by omega
          have htm : (k : Int).tmod 2 = ((k % 2 : Nat) : Int) := by rw [Int.tmod_eq_emod_of_nonneg (by omega)]; omega
          generalize hmm : k % 2 = m at *
          have HMM := hide hmm
          clear hmm
          go_wp2_with fail
          refine (step_at r (h + 1) h q 4 m _ st _ wr hR (unhide HGd) s0 (by omega)).mono ?_
          rintro e w12 ⟨rfl, ⟨st', t0, t1, hR7, hG7⟩, hF7⟩
          have hB12 := hF7.belowAt hB (by omega) (Nat.le_refl _) zq hz
          have e1 : stepAt (twoRun k).1 (twoRun k).2 m = twoRun (k + 1) := by rw [← unhide HMM]; rfl
          rw [e1] at hR7 hG7
          have HG7 := hide hG7
          clear e1 hG7 hF7 htm
          go_wp2_with fail
          go_roundw
          case rel => exact ⟨k + 1, st', by omega, by go_num, by omega, by omega, hR7, unhide HG7, hB12⟩
          case measure => simp [intOf]; omega
        · obtain rfl : k = 40 := by omega
          clear hk40 hk
          have e1 := two_st
          have e2 := two_len
          have e3 := two_opn
          generalize twoRun 40 = T at *
          have E1 := hide e1
          have E2 := hide e2
          have E3 := hide e3
          clear e1 e2 e3
          go_wp2_with fail
          refine (all_anyL r (h + 1) h q 4 2 T.2 st T.1 (unhide E2) wr hR).mono ?_
          rintro e w13 ⟨rfl, hA, hB13'⟩
          have hz13 := hB13'.size
          have hB13 : Below h w1 w13 := hB.trans (hB13'.mono hz)
          have hR13 := hR.below hB13'
          have l13 : wr.heap.size < w13.heap.size := (Array.getElem?_eq_some_iff.1 hA).1
          rw [unhide E1] at hA
          have HA := hide hA
          clear hA hR hB hB13'
          generalize wr.heap.size = y at *
          go_wp2_with fail
          refine (pick_x r (h + 1) h q 4 T.2 st 0 T.1 w13 hR13 (by omega) (by omega)).mono ?_
          rintro e w14 ⟨rfl, hB14'⟩
          have hz14 := hB14'.size
          have hB14 : Below h w1 w14 := hB13.trans (hB14'.mono (by omega))
          have hR14 := hR13.below hB14'
          have hA14 := (hB14'.block y l13).trans (unhide HA)
          have he : (!(opn T.1).isEmpty) = false := by rw [unhide E3]; rfl
          rw [he]
          have HA14 := hide hA14
          clear hA14 he hR13 hB13 hB14'
          go_wp2_with fail
          refine (step_past r (h + 1) h q 4 T.2 st 2 T.1 w14 hR14 (by rw [unhide E2]; simp)).mono ?_
          rintro e w15 ⟨rfl, hB15'⟩
          have hz15 := hB15'.size
          have hB15 : Below h w1 w15 := hB14.trans (hB15'.mono (by omega))
          have hA15 := (hB15'.block y (by omega)).trans (unhide HA14)
          have y0 : w15.cell? ⟨y, 0, none⟩ = some (.bool true) := by rw [cell_of hA15]; rfl
          have y4 : w15.cell? ⟨y, 4, none⟩ = some (.bool true) := by rw [cell_of hA15]; rfl
          have y5 : w15.cell? ⟨y, 5, none⟩ = some (.int .i64 5) := by rw [cell_of hA15]; rfl
          have y6 : w15.cell? ⟨y, 6, none⟩ = some (.int .i64 6) := by rw [cell_of hA15]; rfl
          unfold noState
          have ly : y < w15.heap.size := by omega
          clear hA15 hB15' hR14 hB14
          go_wp2_with fail
          refine (known_true _).mono ?_
          rintro e w16 ⟨rfl, hB16⟩
          go_wp2_with fail
          go_ret
          exact ⟨rfl, by rw [unhide HH]; exact (hB15.alloc (by omega) _).trans (hB16.mono (by simp; omega))⟩

set_option maxRecDepth 100000 in
theorem lifted (os : Os) (started : os.Started) (H : Type) (enc : TypeId × Value → H) :
    ReturnsInHanded {} Try.checked os 3 .any (Rows.spinNumbersSpec.pre6 enc Try.prog Try.f3 Rows.spinNumbersRow.domain false) (Rows.spinNumbersSpec.post enc Try.prog Try.f3 false true false false) := by
  refine returnsInHanded_of_change (C := Try.checked) own started (by kernel_rfl) Try.func3
    (ChangeSpec.witness6 (enc := enc) (C := Try.checked) false ⟨#[], #[], []⟩ 8 (by kernel_rfl) (by kernel_rfl) (by kernel_rfl) (by kernel_rfl)) ?_
  intro W base args ds gs before hval0 hW hcnd _
  have hval : ∀ (j : Nat) t v, Try.f3.params[j]? = some t → args[j]? = some v → Value.okWide Try.prog W .any base t v := hval0
  have hW' := hW
  obtain ⟨p, q, hA0, hV, rfl, hfz, hnd⟩ := hW
  have hA : DataW.TrodAll enc Try.prog W 0 (fun _ => true) true Try.f3.params.toList args.toList ds p := hA0
  rw [Try.params3] at hA hval
  obtain ⟨rfl, rfl, rfl⟩ := trodAll_none hA
  obtain ⟨rfl, rfl⟩ := trodVars_none hV
  clear hA0 hval0
  simp only [List.append_nil] at hW'
  refine (walk  W).mono fun e W' ⟨he, hg⟩ => ?_
  subst he
  exact ⟨_, rfl, _, _, _, [], _, [], hW', trodAll_mk1 (shut_bool Try.underlying4 _), rfl, rfl, hg.frame _, fun h => by cases h⟩

theorem over : Rows.spinNumbersRow.holds Try.pinned (OpenSpec.ofChange Rows.spinNumbersSpec) :=
  OpenClaim.holds_of_wide 3 Try.f3 rfl rfl rfl rfl rfl rfl rfl ⟨rfl, rfl, rfl, rfl, rfl⟩ rfl rfl rfl rfl rfl (by kernel_rfl) Try.func3 (by kernel_rfl)
    (of_decide_eq_true (by kernel_rfl)) (by unfold Func.isWrapper; first | (rw [if_pos (by decide +kernel)]; kernel_rfl) | (rw [if_neg (by decide +kernel)]; exact ⟨rfl, rfl⟩))
    (fun os started H enc _ => lifted os started H enc)

end Go.Proofs.Ytkgeapmafpeapaa.spinNumbers

namespace Go.Proofs.Ytkgeapmafpeapaa
/-- SpinNumbers answers true. -/
theorem spinNumbers_proved : Rows.SpinNumbersSaid := spinNumbers.over
#print axioms spinNumbers_proved
end Go.Proofs.Ytkgeapmafpeapaa
