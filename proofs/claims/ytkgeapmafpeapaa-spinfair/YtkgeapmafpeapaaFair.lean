/-
  SpinFair: holders that are picked in turn are all done; each held the lock once. No conditions.
-/
import Derived.Test.YtkgeapmafpeapaaFairA
import Derived.ProofKit
import Derived.OpenShut
import Derived.ChangeOld
namespace Go.Proofs.Ytkgeapmafpeapaa.spinFair
open Go.ChangeShapes Go.WideShapes Go.ChangeAt Go.RowKit
attribute [local go_sem ↓] Go.wp_at_zero Go.wp_at_succ
set_option linter.unusedVariables false

theorem own : ownKnob Try.prog.godebug = none := by kernel_rfl
theorem laidOut : laidOutB Try.prog = true := by kernel_rfl

set_option maxRecDepth 100000 in
set_option maxHeartbeats 2000000 in
theorem walk (a0 a1 a2 : Int) (w : World) :
    Calls Try.prog 8 #[.int .i64 a0, .int .i64 a1, .int .i64 a2] w fun e w' => e = .returned (.bool true) ∧ Below w.heap.size w w' := by
  obtain ⟨i0, hi, hz0, hz1, hz2⟩ := info_parts info30
  go_enter Try.func8, Try.ntmps8
  go_wp2_with fail
  refine (within_any a0 7 _ (by omega) (by omega)).mono ?_
  rintro e w1 ⟨⟨n0, p0, p1, rfl⟩, rfl⟩
  go_wp2_with fail
  refine (within_any a1 6 _ (by omega) (by omega)).mono ?_
  rintro e w1 ⟨⟨wk, q0, q1, rfl⟩, rfl⟩
  go_wp2_with fail
  refine (within_any a2 20 _ (by omega) (by omega)).mono ?_
  rintro e w1 ⟨⟨fr, f0, f1, rfl⟩, rfl⟩
  obtain ⟨W, rfl⟩ := Int.eq_ofNat_of_zero_le q0
  obtain ⟨f, rfl⟩ := Int.eq_ofNat_of_zero_le f0
  obtain ⟨n, hn⟩ : ∃ n : Nat, 1 + n0 = (n : Int) := ⟨(1 + n0).toNat, by omega⟩
  have n1 : 1 ≤ n := by omega
  have n8 : n ≤ 8 := by omega
  have n8' : (n : Int) ≤ 8 := by omega
  rw [hn]
  clear p0 p1 hn q0 f0
  go_wp2_with fail
  refine (new2 _).mono ?_
  rintro e w2 ⟨rfl, hM2, hB2⟩
  have z2 := hB2.size
  have b2 := hM2.blt
  generalize hh : w1.heap.size = h at *
  have HH := hide hh
  clear hh
  generalize hg : w2.heap.size = g at *
  have HG := hide hg
  clear hg
  go_wp2_with fail
  go_loopw [9, 10] (fun v i wr => ∃ k : Nat, k ≤ n ∧ i = .int .i64 k ∧ wr.ownsRow g 30 5 v k (rowsOf Jb.row (List.replicate k ⟨1, 1, W, 0, 0⟩)) ∧ Below g w2 wr ∧ g ≤ wr.heap.size) (fun _ i _ => n - (intOf i).toNat)
  case atStart => exact ⟨0, Nat.zero_le _, rfl, World.ownsRow_nil _ _ _ _, Below.refl _ _, by rw [unhide HG]; omega⟩
  case round =>
    obtain ⟨k, hk, rfl, hown, hB, hs⟩ := hrel
    by_cases hkn : k < n
    · have j1 : (k : Int) < (n : Int) := by omega
      go_wp2_with (first
        | (at_builtin; refine wpList_append_own _ rfl _ _ 31 rfl g 30 i0 (.agg #[.int .i64 0, .int .i64 0, .int .i64 0, .int .i64 0, .int .i64 0]) 5 40 Try.underlying31 hi hz0 hz1 hz2 rfl (by decide) _ _ _ rfl (hown.alloc _) ⟨wr.heap.size, 0, none⟩ 1 1 [.int .i64 1, .int .i64 1, .int .i64 W, .int .i64 0, .int .i64 0] rfl rfl ?c1 ?c2 ?c3 ?c4 ?c5 ?_))
      case c1 =>
        intro j u hj
        match j, hj with
        | 0, hj => simp at hj; subst hj; simp [Addr.add]
        | 1, hj => simp at hj; subst hj; simp [Addr.add]
        | 2, hj => simp at hj; subst hj; simp [Addr.add]
        | 3, hj => simp at hj; subst hj; simp [Addr.add]
        | 4, hj => simp at hj; subst hj; simp [Addr.add]
      case c2 => intro u hu; simp at hu; rcases hu with rfl | rfl | rfl <;> rfl
      case c3 => unfold maxLen; omega
      case c4 => omega
      case c5 => simp; omega
      intro v' w3 hown' hgrow _
      have hB1 := grown_below hB hown hgrow hs
      have hs1 : g ≤ w3.heap.size := by have := hgrow.size; simp at this; omega
      have hown1 : w3.ownsRow g 30 5 v' (k + 1) (rowsOf Jb.row (List.replicate (k + 1) ⟨1, 1, W, 0, 0⟩)) := by
        rw [List.replicate_succ', rows_snoc]; exact hown'
      have HO := hide hown1
      clear hown' hgrow hown hown1
      go_wp2_with fail
      go_roundw
      case rel => exact ⟨k + 1, by omega, by go_num, unhide HO, hB1, hs1⟩
      case measure => simp [intOf]; omega
    · obtain rfl : k = n := by omega
      clear hkn hk
      have hM3 := hM2.below (by rw [unhide HG]; exact hB)
      obtain ⟨pa, cap, rfl, hJ⟩ := JobsAt.of_ownsL (List.length_replicate) hown
      clear hown
      go_wp2_with fail
      have hfit : ∀ (i : Nat) (j : Jb), (List.replicate k (⟨1, 1, W, 0, 0⟩ : Jb))[i]? = some j → j.fit ((2 : Nat) : Int) := by
        intro i j hj
        rw [List.getElem?_replicate] at hj
        split at hj
        · cases hj; exact ⟨by simp, by simp; omega, by simp, .inl ⟨rfl, by simp⟩⟩
        · cases hj
      refine (new_goodL (h + 1) h 2 k _ 0 0 0 0 0 false (List.replicate k ⟨1, 1, W, 0, 0⟩) (List.length_replicate) pa cap wr hM3 hJ hfit n8).mono ?_
      rintro e w4 ⟨r, q, rfl, hr, hq, hR4, hB4⟩
      have hI0 : HInv 1 W (machs (List.replicate k ⟨1, (1 : Nat), W, 0, 0⟩), [0, 0]) := HInv.start 1 W k [0, 0] rfl (by simp)
      have hG0 : Good 2 0 (machs (List.replicate k ⟨1, (1 : Nat), W, 0, 0⟩)) := Good.machs hfit
      have hno := nOpen_machs (List.replicate k ⟨1, (1 : Nat), W, 0, 0⟩)
      have hml := machs_length (List.replicate k ⟨1, (1 : Nat), W, 0, 0⟩)
      rw [List.length_replicate] at hno hml
      replace hR4 : Run w4 r (h + 1) h q 2 [0, 0] 0 (machs (List.replicate k ⟨1, (1 : Nat), W, 0, 0⟩)) := hR4
      generalize machs (List.replicate k ⟨1, (1 : Nat), W, 0, 0⟩) = ms0 at *
      have hB5 : Below h w1 w4 := (hB2.trans (hB.mono (by omega))).trans (hB4.mono (by omega))
      have z5 : h ≤ q := by omega
      have hL0 : Left (hEv 1) (hDes 1) 8 (W + 1) 900 (ms0, [0, 0]) f 0 := (hGoes 1 W).start ⟨hI0, by simp; omega⟩ (E := 16) (by unfold hEv; simp; omega) (by have : 16 * ((W + 1) * 8) ≤ 16 * (7 * 8) := Nat.mul_le_mul_left _ (Nat.mul_le_mul_right _ (by omega)); omega) f
      clear hJ hfit hM2 hM3 hB2 hB hB4 hr hq hs b2 z2
      have HI0 := hide hI0
      have HG0 := hide hG0
      have HL0 := hide hL0
      have HNO := hide hno
      have HML := hide hml
      clear hI0 hG0 hL0 hno hml
      go_wp2_with fail
      go_loopw [13, 14] (fun a i wq => ∃ (t hd : Nat) (ms : List Mach) (ws : List Int) (st : Int), i = .int .i64 ((f + t : Nat) : Int) ∧ a = .int .i64 hd ∧ t ≤ 900 ∧ 0 ≤ st ∧ st ≤ t ∧ Run wq r (h + 1) h q 2 ws st ms ∧ Good 2 st ms ∧ HInv 1 W (ms, ws) ∧ ms.length = k ∧ ws.getD 0 0 = 0 ∧
        Left (hEv 1) (hDes 1) 8 (W + 1) 900 (ms, ws) (f + t) t ∧ hd + nOpen ms = k + (if ws.getD 1 0 = 0 then 0 else 1) ∧ Below h w1 wq) (fun _ i _ => f + 1000 - (intOf i).toNat)
      case atStart => exact ⟨0, 0, ms0, [0, 0], 0, by simp, rfl, by omega, by omega, by omega, hR4, unhide HG0, unhide HI0, unhide HML, rfl, unhide HL0, by rw [unhide HNO]; simp, hB5⟩
      case round =>
        obtain ⟨t, hd, ms, ws, st, rfl, rfl, ht, s0, s1, hR, hGd, hI, hml, hc0, hL, hcnt, hB⟩ := hrel
        clear HI0 HG0 HL0 HNO HML hR4 hB5
        have hz : h ≤ wr.heap.size := by have := hB.size; rw [unhide HH] at this; exact this
        have f2 : f ≤ 20 := by omega
        have u1 : ((f + t : Nat) : Int) < (f : Int) + 1000 := by omega
        have u2 : ((f + t : Nat) : Int) ≤ 920 := by omega
        have u3 : (0 : Int) ≤ ((f + t : Nat) : Int) := by omega
        have hdl : hd ≤ 9 := by split at hcnt <;> omega
        have HGd := hide hGd
        have HI := hide hI
        have Hml := hide hml
        have HC0 := hide hc0
        have HLf := hide hL
        have HCNT := hide hcnt
        clear hGd hI hml hc0 hL hcnt
        have HK := hide (pick_at r (h + 1) h q 2 (f + t) ws st ms wr hR (by omega))
        generalize hft : ((f + t : Nat) : Int) = x at *
        have HFT := hide hft
        clear hft
        go_wp2_with fail
        refine (unhide HK).mono ?_
        rintro e w5 ⟨rfl, hB6⟩
        by_cases ho : opn ms = []
        · have he : (!(opn ms).isEmpty) = false := by rw [ho]; rfl
          rw [he]
          have hz5 := hB6.size
          have hB7 : Below h w1 w5 := hB.trans (hB6.mono hz)
          have hfin : hd = k := by
            have c1 := unhide HCNT
            have c2 : nOpen ms = 0 := by rw [← opn_length, ho]; rfl
            have c3 : ws.getD 1 0 = 0 := by
              rcases (unhide HI).lock with g | ⟨i, X, g1, g2, _⟩
              · exact g
              · have := mem_opn.2 ⟨X, g1, g2⟩; simp only [] at this; rw [ho] at this; simp at this
            rw [c2, c3, if_pos rfl] at c1
            omega
          subst hfin
          have HO := hide ho
          clear he ho hB
          go_wp2_with fail
          refine (all_anyL r (h + 1) h q 2 hd ws st ms (unhide Hml) w5 (hR.below hB6)).mono ?_
          rintro e w6 ⟨rfl, hA6, hB8⟩
          have hz6 := hB8.size
          have hB9 : Below h w1 w6 := hB7.trans (hB8.mono (by omega))
          have HA := hide hA6
          clear hA6 hB7
          generalize w5.heap.size = y at *
          go_wp2_with fail
          go_loopw [20] (fun i wq => ∃ j : Nat, j ≤ hd ∧ i = .int .i64 j ∧ wq = w6) (fun i _ => hd - (intOf i).toNat)
          case atStart => exact ⟨0, Nat.zero_le _, rfl, rfl⟩
          case round =>
            obtain ⟨j, hj, rfl, rfl⟩ := hrel
            by_cases hjk : j < hd
            · have j1 : (j : Int) < (hd : Int) := by omega
              have j0 : (0 : Int) ≤ (j : Int) := by omega
              obtain ⟨M, hM⟩ : ∃ M, ms[j]? = some M := ⟨_, List.getElem?_eq_getElem (by rw [unhide Hml]; exact hjk)⟩
              have c0 := (st_cell (unhide HA) hM).1
              rw [all_done (unhide HO) hM] at c0
              clear hM
              go_wp2_with fail
              go_roundw
              case rel => exact ⟨j + 1, by omega, by go_num, by first | rfl | trivial⟩
              case measure => simp [intOf]; omega
            · obtain rfl : j = hd := by omega
              clear hjk
              go_wp2_with fail
              refine (known_true _).mono ?_
              rintro e w8 ⟨rfl, hB10⟩
              go_wp2_with fail
              go_ret
              exact ⟨rfl, by rw [unhide HH]; exact hB9.trans (hB10.mono (by omega))⟩
        · have he : (!(opn ms).isEmpty) = true := by cases hx : opn ms; exact absurd hx ho; rfl
          rw [he]
          obtain ⟨M, hM, hMd⟩ := mem_opn.1 (pk_mem ho (f + t))
          obtain ⟨hlt, hnext⟩ := (hGoes 1 W).next ⟨unhide HI, by show ms.length ≤ 8; rw [unhide Hml]; exact n8⟩ (unhide HLf) ho
          have hI' := (unhide HI).step hM hMd
          have hcs := fair_step (unhide HI) hM hMd (unhide HC0)
          have hwl := hR.sys.wlen
          simp only [] at hnext hI' hcs hlt
          have hnl : (stepAt ms ws (pk ms (f + t))).1.length = k := by rw [stepAt_length]; exact unhide Hml
          have HNL := hide hnl
          clear hnl
          have HNX := hide hnext
          have HI' := hide hI'
          have HCS := hide hcs
          have HM := hide hM
          have HMd := hide hMd
          have HWL := hide hwl
          clear he ho hnext hI' hcs hM hMd hwl
          have hz5 := hB6.size
          have hB7 : Below h w1 w5 := hB.trans (hB6.mono hz)
          have hR5 := hR.below hB6
          have l5q := hR5.sys.qlt
          have l5b := hR5.sys.blt
          clear hB hR hB6
          go_wp2_with fail
          refine (hR5.words).mono ?_
          rintro e w6 ⟨rfl, hW6, hB8⟩
          have hz6 := hB8.size
          have hB9 : Below h w1 w6 := hB7.trans (hB8.mono (by omega))
          have hR6 := hR5.below hB8
          have l6 : w5.heap.size < w6.heap.size := (Array.getElem?_eq_some_iff.1 hW6).1
          have HW6 := hide hW6
          clear hW6 hB7 hR5 hB8
          go_wp2_with fail
          refine (step_at r (h + 1) h q 2 (pk ms (f + t)) ws st ms w6 hR6 (unhide HGd) s0 (by omega)).mono ?_
          rintro e w7 ⟨rfl, ⟨st', t0, t1, hR7, hG7⟩, hF7⟩
          have hz7 := hF7.size
          have hB10 := hF7.belowAt hB9 (by omega) (Nat.le_refl _) z5 (by omega)
          have hW7 := (hF7.block w5.heap.size l6 (by omega) (by omega) (by omega)).trans (unhide HW6)
          have HW7 := hide hW7
          have hwl7 := hR7.sys.wlen
          have HWL7 := hide hwl7
          clear hW7 hwl7 hB9 hF7 hR6 HW6
          generalize hNN : stepAt ms ws (pk ms (f + t)) = N at *
          clear hNN
          go_wp2_with fail
          refine (hR7.words).mono ?_
          rintro e w8 ⟨rfl, hW8, hB11⟩
          have hz8 := hB11.size
          have hB12 : Below h w1 w8 := hB10.trans (hB11.mono (by omega))
          have hR8 := hR7.below hB11
          have x1 := (hB11.cell (p := ⟨w5.heap.size, 1, none⟩) (by show w5.heap.size < w7.heap.size; omega)).trans (word_cell (unhide HW7) 1 (by rw [unhide HWL]; omega))
          have y0 := word_cell hW8 0 (by rw [unhide HWL7]; omega)
          have y1 := word_cell hW8 1 (by rw [unhide HWL7]; omega)
          obtain ⟨c0, hcc⟩ := unhide HCS
          rw [c0] at y0
          clear hW8 hB10 hB11 hR7 HW7 HCS
          generalize hLL : ws.getD 1 0 = L at *
          generalize hLL' : N.2.getD 1 0 = L' at *
          have HLL := hide hLL
          have HLL' := hide hLL'
          have HC0' := hide c0
          clear hLL hLL' c0
          generalize w5.heap.size = g1 at *
          generalize w7.heap.size = g2 at *
          have hlen' : N.1.length = k := by
            have := hR8.l8
            exact unhide HNL
          rcases hcc with ⟨l0, l1, l2⟩ | ⟨l0, l2⟩
          · have k1 : (L == 0) = true := by simp [l0]
            have k2 : (L' == 0) = false := by simp [l1]
            have HL1 := hide l1
            have HL0 := hide l0
            clear l0 l1
            go_wp2_with fail
            go_roundw
            case rel =>
              refine ⟨t + 1, hd + 1, N.1, N.2, st', by rw [← unhide HFT]; go_num, by go_num, by omega, by omega, by omega, hR8, hG7, unhide HI', hlen', unhide HC0', unhide HNX, ?_, hB12⟩
              have := unhide HCNT
              rw [unhide HL0, if_pos rfl] at this
              rw [unhide HLL', if_neg (unhide HL1), l2]
              omega
            case measure => rw [← unhide HFT]; simp [intOf]; omega
          · have k1 : (L == 0) = false := by simp [l0]
            have HL0 := hide l0
            clear l0
            go_wp2_with fail
            go_roundw
            case rel =>
              refine ⟨t + 1, hd, N.1, N.2, st', by rw [← unhide HFT]; go_num, by go_num, by omega, by omega, by omega, hR8, hG7, unhide HI', hlen', unhide HC0', unhide HNX, ?_, hB12⟩
              have := unhide HCNT
              rw [if_neg (unhide HL0)] at this
              rw [unhide HLL']
              rcases l2 with ⟨e1, e2⟩ | ⟨e1, e2⟩
              · rw [if_pos e2]; omega
              · rw [if_neg e2]; omega
            case measure => rw [← unhide HFT]; simp [intOf]; omega

set_option maxRecDepth 100000 in
theorem lifted (os : Os) (started : os.Started) (H : Type) (enc : TypeId × Value → H) :
    ReturnsInHanded {} Try.checked os 8 .any (Rows.spinFairSpec.pre6 enc Try.prog Try.f8 Rows.spinFairRow.domain false) (Rows.spinFairSpec.post enc Try.prog Try.f8 false true false false) := by
  refine returnsInHanded_of_change (C := Try.checked) own started (by kernel_rfl) Try.func8
    (ChangeSpec.witness6 (enc := enc) (C := Try.checked) false ⟨#[], #[.int .i64 0, .int .i64 0, .int .i64 0], []⟩ 8 (by kernel_rfl) (by kernel_rfl) (by kernel_rfl) (by kernel_rfl)) ?_
  intro W base args ds gs before hval0 hW hcnd _
  have hval : ∀ (j : Nat) t v, Try.f8.params[j]? = some t → args[j]? = some v → Value.okWide Try.prog W .any base t v := hval0
  have hW' := hW
  obtain ⟨p, q, hA0, hV, rfl, hfz, hnd⟩ := hW
  have hA : DataW.TrodAll enc Try.prog W 0 (fun _ => true) true Try.f8.params.toList args.toList ds p := hA0
  rw [Try.params8] at hA hval
  obtain ⟨v0, vs0, d0, ds0, p0, q0, hargs, rfl, rfl, h0, r0⟩ := trodAll_cons hA
  obtain ⟨v1, vs1, d1, ds1, p1, q1, rfl, rfl, rfl, h1, r1⟩ := trodAll_cons r0
  obtain ⟨v2, vs2, d2, ds2, p2, q2, rfl, rfl, rfl, h2, r2⟩ := trodAll_cons r1
  obtain ⟨rfl, rfl, rfl⟩ := trodAll_nil r2
  obtain rfl : args = #[v0, v1, v2] := by cases args; simp_all
  obtain ⟨rfl, rfl⟩ := trodVars_none hV
  obtain ⟨a0, rfl, rfl, rfl, w0⟩ := open_int Try.underlying3 (hval 0 3 v0 rfl rfl) h0
  obtain ⟨a1, rfl, rfl, rfl, w1⟩ := open_int Try.underlying3 (hval 1 3 v1 rfl rfl) h1
  obtain ⟨a2, rfl, rfl, rfl, w2⟩ := open_int Try.underlying3 (hval 2 3 v2 rfl rfl) h2
  clear hA0 hval0
  simp only [List.append_nil] at hW'
  refine (walk a0 a1 a2 W).mono fun e W' ⟨he, hg⟩ => ?_
  subst he
  exact ⟨_, rfl, _, _, _, [], _, [], hW', trodAll_mk1 (shut_bool Try.underlying4 _), (trodAll_cons_mk (shut_int Try.underlying3 w0) (trodAll_cons_mk (shut_int Try.underlying3 w1) (trodAll_cons_mk (shut_int Try.underlying3 w2) trodAll_mk0))), rfl, hg.frame _, fun h => by cases h⟩

theorem over : Rows.spinFairRow.holds Try.pinned (OpenSpec.ofChange Rows.spinFairSpec) :=
  OpenClaim.holds_of_wide 8 Try.f8 rfl rfl rfl rfl rfl rfl rfl ⟨rfl, rfl, rfl, rfl, rfl⟩ rfl rfl rfl rfl rfl (by kernel_rfl) Try.func8 (by kernel_rfl)
    (of_decide_eq_true (by kernel_rfl)) (by unfold Func.isWrapper; first | (rw [if_pos (by decide +kernel)]; kernel_rfl) | (rw [if_neg (by decide +kernel)]; exact ⟨rfl, rfl⟩))
    (fun os started H enc _ => lifted os started H enc)

end Go.Proofs.Ytkgeapmafpeapaa.spinFair

namespace Go.Proofs.Ytkgeapmafpeapaa
/-- SpinFair answers true. -/
theorem spinFair_proved : Rows.SpinFairSaid := spinFair.over
#print axioms spinFair_proved
end Go.Proofs.Ytkgeapmafpeapaa
