/-
  The contract of walk.
-/
import Derived.Test.YtlngeaacjbdmhaaGreatMp29
import Derived.Test.YtlngeaacjbdmhaaGreatMp08
import Derived.Test.YtlngeaacjbdmhaaGreatMp19
import Derived.Test.YtlngeaacjbdmhaaGreatMp20
import Derived.Test.YtlngeaacjbdmhaaGreatMp24
set_option maxRecDepth 100000
namespace Go.Proofs.YtlngeaacjbdmhaaGreat.Wl
open Go.RowKit
attribute [local go_sem ↓] Go.wp_at_zero Go.wp_at_succ
theorem set9 {X : World} {b : Nat} {t : TypeId} {a0 a1 a2 a3 a4 a5 a6 a7 a8 : Value} (h : X.heap[b]? = some (.cells #[a0, a1, a2, a3, a4, a5, a6, a7, a8] t)) (v0 v1 v2 v3 v4 v5 v6 v7 v8 : Value) :
    ∃ Y, ((((((((X.setCell ⟨b, 0, none⟩ v0).setCell ⟨b, 1, none⟩ v1).setCell ⟨b, 2, none⟩ v2).setCell ⟨b, 3, none⟩ v3).setCell ⟨b, 4, none⟩ v4).setCell ⟨b, 5, none⟩ v5).setCell ⟨b, 6, none⟩ v6).setCell ⟨b, 7, none⟩ v7).setCell ⟨b, 8, none⟩ v8 = Y ∧ Y.heap[b]? = some (.cells #[v0, v1, v2, v3, v4, v5, v6, v7, v8] t) ∧ (∀ B u, Below B u X → B ≤ b → Below B u Y) ∧ (∀ k, k ≠ b → Y.heap[k]? = X.heap[k]?) := by
  refine ⟨_, rfl, by rw [heap_set (heap_set (heap_set (heap_set (heap_set (heap_set (heap_set (heap_set (heap_set h 0 _) 1 _) 2 _) 3 _) 4 _) 5 _) 6 _) 7 _) 8 _]; simp only [List.setIfInBounds_toArray, List.set_cons_succ, List.set_cons_zero], fun B u hu hb => ((((((((hu.setCell (p := ⟨b, 0, none⟩) hb _).setCell (p := ⟨b, 1, none⟩) hb _).setCell (p := ⟨b, 2, none⟩) hb _).setCell (p := ⟨b, 3, none⟩) hb _).setCell (p := ⟨b, 4, none⟩) hb _).setCell (p := ⟨b, 5, none⟩) hb _).setCell (p := ⟨b, 6, none⟩) hb _).setCell (p := ⟨b, 7, none⟩) hb _).setCell (p := ⟨b, 8, none⟩) hb _, fun k hk => ?_⟩
  rw [Below.heap_setCell _ _ _ _ hk, Below.heap_setCell _ _ _ _ hk, Below.heap_setCell _ _ _ _ hk, Below.heap_setCell _ _ _ _ hk, Below.heap_setCell _ _ _ _ hk, Below.heap_setCell _ _ _ _ hk, Below.heap_setCell _ _ _ _ hk, Below.heap_setCell _ _ _ _ hk, Below.heap_setCell _ _ _ _ hk]
theorem cells9 {W : World} {b : Nat} {t : TypeId} {a0 a1 a2 a3 a4 a5 a6 a7 a8 : Value} (h : W.heap[b]? = some (.cells #[a0, a1, a2, a3, a4, a5, a6, a7, a8] t)) : W.cell? ⟨b, 0, none⟩ = some a0 ∧ W.cell? ⟨b, 1, none⟩ = some a1 ∧ W.cell? ⟨b, 2, none⟩ = some a2 ∧ W.cell? ⟨b, 3, none⟩ = some a3 ∧ W.cell? ⟨b, 4, none⟩ = some a4 ∧ W.cell? ⟨b, 5, none⟩ = some a5 ∧ W.cell? ⟨b, 6, none⟩ = some a6 ∧ W.cell? ⟨b, 7, none⟩ = some a7 ∧ W.cell? ⟨b, 8, none⟩ = some a8 ∧ ∀ i, W.frozen? ⟨b, i, none⟩ = false := by
  refine ⟨?_, ?_, ?_, ?_, ?_, ?_, ?_, ?_, ?_, frozen_of h⟩ <;> rw [cell_of h] <;> rfl
theorem four_new (W : World) (o1 o2 o3 o4 : Obj) : ∃ V, (((W.alloc o1).alloc o2).alloc o3).alloc o4 = V ∧ V.heap[W.heap.size]? = some o1 ∧ V.heap[W.heap.size + 1]? = some o2 ∧ V.heap[W.heap.size + 1 + 1]? = some o3 ∧ V.heap[W.heap.size + 1 + 1 + 1]? = some o4 ∧ Below W.heap.size W V ∧ V.heap.size = W.heap.size + 4 := by
  obtain ⟨V1, h1, g1, g2, hB1, hs1⟩ := two_new W o1 o2
  obtain ⟨V2, h2, g3, g4, hB2, hs2⟩ := two_new V1 o3 o4
  refine ⟨V2, by rw [h1, h2], (hB2.block _ (by omega)).trans g1, (hB2.block _ (by omega)).trans g2, by rw [show W.heap.size + 1 + 1 = V1.heap.size by omega]; exact g3, by rw [show W.heap.size + 1 + 1 + 1 = V1.heap.size + 1 by omega]; exact g4, hB1.trans (hB2.mono (by omega)), by omega⟩
section
variable {lo N mb : Nat} {W : World} {t m b : Nat} {E : En} {s : Nat}
theorem fin4 {V w3 Y : World} {h : Nat} (hs : V.heap.size = h + 4) (hB : Below h W V) (h3 : Below V.heap.size V w3) (hY : ∀ B u, Below B u w3 → B ≤ h + 1 + 1 + 1 → Below B u Y) : Below h W Y := hY _ _ (hB.trans (h3.mono (by omega))) (by omega)
set_option maxHeartbeats 1000000 in
theorem walk_no (D : Wd lo N mb W t m E) (fm fn : Int) (hr : (kl E.rn).wf = true) (hf : (kl fn).wf = true) (path : Bytes) (hp : (E.place E.rm E.rn && E.place fm fn) = false) :
    Calls Tryz.prog 101 #[P0 t, P0 m, .agg #[I E.rm, I E.rn], .agg #[I fm, I fn], .agg #[I E.cu, I E.cg], .string (bs path), .bool E.follow] W fun e w' => e = .returned (.tuple #[Fd.none.v, I 0, I 1]) ∧ Below W.heap.size W w' := by
  obtain ⟨V, hV, g1, g2, g3, g4, hB, hs⟩ := four_new W (.cells #[I E.rm, I E.rn] 50) (.cells #[I fm, I fn] 50) (.cells #[I E.cu, I E.cg] 57) zfd
  unfold zfd at hV g4
  obtain ⟨a0, a1⟩ := Mt.cells2 g1
  obtain ⟨b0, b1⟩ := Mt.cells2 g2
  obtain ⟨r1, hr1⟩ : ∃ r1, E.place E.rm E.rn = r1 := ⟨_, rfl⟩
  obtain ⟨r2, hr2⟩ : ∃ r2, E.place fm fn = r2 := ⟨_, rfl⟩
  rw [hr1, hr2] at hp
  have H1 := hide (place_any (D.below hB) E.rm E.rn hr r1 hr1)
  have H2 := hide (fun (V' : World) (g' : Below V.heap.size V V') => place_any ((D.below hB).below g') fm fn hf r2 hr2)
  have HG := hide (⟨g4, hB, hs⟩ : _ ∧ _ ∧ _)
  clear D g1 g2 g3 g4 hB hs hr1 hr2 hr hf
  show Calls _ _ _ _ fun e w' => e = .returned (.tuple #[.agg #[I 0, I 0, .string (bs []), I 0, I 0, .bool false, .bool false], I 0, I 1]) ∧ _
  cases r1 with
  | false =>
    go_enter Tryz.func101, Tryz.ntmps101
    go_wp2_with fail
    refine (unhide H1).mono ?_
    rintro e w3 ⟨rfl, hB3⟩
    obtain ⟨g4, hB, hs⟩ := unhide HG
    have g5 := (hB3.block _ (by omega)).trans g4
    obtain ⟨r0, r1, r2, r3, r4, r5, r6, rf⟩ := cells7 g5
    obtain ⟨Y, hY, hYb, hYB⟩ := set7 g5 (I 0) (I 0) (.string ⟨#[]⟩) (I 0) (I 0) (.bool false) (.bool false)
    obtain ⟨z0, z1, z2, z3, z4, z5, z6, -⟩ := cells7 hYb
    have HY := hide hY
    have HYB := hide (fin4 hs hB hB3 hYB)
    clear g4 hB hs g5 hY hYb hYB hB3 H1 H2 HG a0 a1 b0 b1
    go_wp2_with fail
    rw [unhide HY]
    refine bodyPost_ret (v := .tuple #[.agg #[I 0, I 0, .string (bs []), I 0, I 0, .bool false, .bool false], I 0, I 1]) (by simp [results, Tryz.results101, go_sem, z0, z1, z2, z3, z4, z5, z6]) rfl ?_
    exact ⟨rfl, unhide HYB⟩
  | true =>
    obtain rfl : r2 = false := by simpa using hp
    go_enter Tryz.func101, Tryz.ntmps101
    go_wp2_with fail
    refine (unhide H1).mono ?_
    rintro e w2 ⟨rfl, hB2⟩
    have q0 := cell_be b0 hB2
    have q1 := cell_be b1 hB2
    have H3 := hide (unhide H2 w2 hB2)
    have HB2 := hide hB2
    clear H1 H2 hB2 a0 a1 b0 b1
    go_wp2_with fail
    refine (unhide H3).mono ?_
    rintro e w3 ⟨rfl, hB3'⟩
    obtain ⟨g4, hB, hs⟩ := unhide HG
    have hB3 := (unhide HB2).trans (hB3'.mono (unhide HB2).size)
    have g5 := (hB3.block _ (by omega)).trans g4
    obtain ⟨r0, r1, r2, r3, r4, r5, r6, rf⟩ := cells7 g5
    obtain ⟨Y, hY, hYb, hYB⟩ := set7 g5 (I 0) (I 0) (.string ⟨#[]⟩) (I 0) (I 0) (.bool false) (.bool false)
    obtain ⟨z0, z1, z2, z3, z4, z5, z6, -⟩ := cells7 hYb
    have HY := hide hY
    have HYB := hide (fin4 hs hB hB3 hYB)
    clear g4 hB hs g5 hY hYb hYB hB3 hB3' H3 HB2 HG q0 q1
    go_wp2_with fail
    rw [unhide HY]
    refine bodyPost_ret (v := .tuple #[.agg #[I 0, I 0, .string (bs []), I 0, I 0, .bool false, .bool false], I 0, I 1]) (by simp [results, Tryz.results101, go_sem, z0, z1, z2, z3, z4, z5, z6]) rfl ?_
    exact ⟨rfl, unhide HYB⟩
set_option maxHeartbeats 1000000 in
theorem walk_bad (D : Wd lo N mb W t m E) (fm fn : Int) (hr : (kl E.rn).wf = true) (hf : (kl fn).wf = true) (path : Bytes) (hp : (E.place E.rm E.rn && E.place fm fn) = true) (x : Int) (hx : Nm.err path = x) (hx0 : ¬ x = 0) :
    Calls Tryz.prog 101 #[P0 t, P0 m, .agg #[I E.rm, I E.rn], .agg #[I fm, I fn], .agg #[I E.cu, I E.cg], .string (bs path), .bool E.follow] W fun e w' => e = .returned (.tuple #[Fd.none.v, I 0, I x]) ∧ Below W.heap.size W w' := by
  obtain ⟨V, hV, g1, g2, g3, g4, hB, hs⟩ := four_new W (.cells #[I E.rm, I E.rn] 50) (.cells #[I fm, I fn] 50) (.cells #[I E.cu, I E.cg] 57) zfd
  unfold zfd at hV g4
  obtain ⟨a0, a1⟩ := Mt.cells2 g1
  obtain ⟨b0, b1⟩ := Mt.cells2 g2
  simp only [Bool.and_eq_true] at hp
  have H1 := hide (place_any (D.below hB) E.rm E.rn hr true hp.1)
  have H2 := hide (fun (V' : World) (g' : Below V.heap.size V V') => place_any ((D.below hB).below g') fm fn hf true hp.2)
  have HRd := hide (Nm.read_any path)
  rw [hx] at HRd
  generalize Nm.rt path = ro at *
  generalize Nm.sl path = st at *
  generalize Nm.ps path = ps at *
  have HG := hide (⟨g4, hB, hs⟩ : _ ∧ _ ∧ _)
  have hx1 : (x != 0) = true := by simpa using hx0
  clear D g1 g2 g3 g4 hB hs hr hf hp hx
  show Calls _ _ _ _ fun e w' => e = .returned (.tuple #[.agg #[I 0, I 0, .string (bs []), I 0, I 0, .bool false, .bool false], I 0, I x]) ∧ _
  go_enter Tryz.func101, Tryz.ntmps101
  go_wp2_with fail
  refine (unhide H1).mono ?_
  rintro e w2 ⟨rfl, hB2⟩
  have q0 := cell_be b0 hB2
  have q1 := cell_be b1 hB2
  have H3 := hide (unhide H2 w2 hB2)
  have HB2 := hide hB2
  clear H1 H2 hB2 a0 a1 b0 b1
  go_wp2_with fail
  refine (unhide H3).mono ?_
  rintro e w3 ⟨rfl, hB3'⟩
  have HB3 := hide ((unhide HB2).trans (hB3'.mono (unhide HB2).size))
  clear hB3' HB2 H3 q0 q1
  go_wp2_with fail
  refine (unhide HRd w3).mono ?_
  rintro e w4 ⟨v, rfl, own, hB4⟩
  obtain ⟨a, vc, rfl⟩ := Nm.own_form own
  obtain ⟨Z, hZ, hBZ⟩ : ∃ Z, w4.alloc (.cells #[.bool ro, .bool st, .slice a ps.length vc] 234) = Z ∧ Below w4.heap.size w4 Z := ⟨_, rfl, (Below.refl _ _).alloc (Nat.le_refl _) _⟩
  obtain ⟨g4, hB, hs⟩ := unhide HG
  have hB5 : Below V.heap.size V Z := (unhide HB3).trans ((hB4.mono (unhide HB3).size).trans (hBZ.mono (Nat.le_trans (unhide HB3).size hB4.size)))
  have g5 := (hB5.block _ (by omega)).trans g4
  obtain ⟨r0, r1, r2, r3, r4, r5, r6, rf⟩ := cells7 g5
  obtain ⟨Y, hY, hYb, hYB⟩ := set7 g5 (I 0) (I 0) (.string ⟨#[]⟩) (I 0) (I 0) (.bool false) (.bool false)
  obtain ⟨z0, z1, z2, z3, z4, z5, z6, -⟩ := cells7 hYb
  have HY := hide hY
  have HYB := hide (fin4 hs hB hB5 hYB)
  clear g4 hB hs g5 hY hYb hYB hB4 hBZ hB5 HB3 HG HRd own
  go_wp2_with fail
  rw [unhide HY]
  refine bodyPost_ret (v := .tuple #[.agg #[I 0, I 0, .string (bs []), I 0, I 0, .bool false, .bool false], I 0, I x]) (by simp [results, Tryz.results101, go_sem, z0, z1, z2, z3, z4, z5, z6]) rfl ?_
  exact ⟨rfl, unhide HYB⟩
end
end Go.Proofs.YtlngeaacjbdmhaaGreat.Wl

namespace Go.Proofs.YtlngeaacjbdmhaaGreat.Wl
open Go.RowKit
attribute [local go_sem ↓] Go.wp_at_zero Go.wp_at_succ
section
variable {lo N mb : Nat} {W : World} {t m b : Nat} {E : En} {s : Nat}
set_option maxHeartbeats 1000000 in
theorem walk_yes (D : Wd lo N mb W t m E) (fm fn : Int) (hr : (kl E.rn).wf = true) (hf : (kl fn).wf = true) (path : Bytes) (hp : (E.place E.rm E.rn && E.place fm fn) = true) (hx : Nm.err path = 0) (R : Re) (hR : E.downed.run 40 ⟨Nm.rt path, Nm.sl path, Nm.ps path⟩ (E.down fm fn).1 (E.down fm fn).2 0 = R) :
    Calls Tryz.prog 101 #[P0 t, P0 m, .agg #[I E.rm, I E.rn], .agg #[I fm, I fn], .agg #[I E.cu, I E.cg], .string (bs path), .bool E.follow] W fun e w' => e = .returned (.tuple #[R.f.v, I (R.steps : Int), I R.why]) ∧ Below W.heap.size W w' := by
  obtain ⟨V, hV, g1, g2, g3, g4, hB, hs⟩ := four_new W (.cells #[I E.rm, I E.rn] 50) (.cells #[I fm, I fn] 50) (.cells #[I E.cu, I E.cg] 57) zfd
  unfold zfd at hV g4
  obtain ⟨v0, v1⟩ := Mt.cells2 g1
  obtain ⟨v2, v3⟩ := Mt.cells2 g2
  simp only [Bool.and_eq_true] at hp
  have H1 := hide (place_any (D.below hB) E.rm E.rn hr true hp.1)
  have H2 := hide (fun (V' : World) (g' : Below V.heap.size V V') => place_any ((D.below hB).below g') fm fn hf true hp.2)
  have HRd := hide (Nm.read_any path)
  rw [hx] at HRd
  have hps : Nm.wt (Nm.ps path) ≤ 5000 := by
    have h1 := (Nm.err_ok hx).2.1
    have h2 := Nm.wt_parts _ path (Nat.le_refl _)
    have h3 : Nm.ende path ≤ 1 := by unfold Nm.ende; split <;> omega
    rw [Nm.ps, if_pos hx]
    omega
  generalize Nm.rt path = ro at *
  generalize Nm.sl path = st at *
  generalize Nm.ps path = ps at *
  have HG := hide (⟨g1, g2, g3, g4, hB, hs, D, hr, hf, hps, hR⟩ : _ ∧ _ ∧ _ ∧ _ ∧ _ ∧ _ ∧ _ ∧ _ ∧ _ ∧ _ ∧ _)
  obtain ⟨fw, hfw⟩ : ∃ fw, E.follow = fw := ⟨_, rfl⟩
  rw [hfw]
  have Hfw := hide hfw
  clear D g1 g2 g3 g4 hB hs hr hf hp hx hps hR hfw
  go_enter Tryz.func101, Tryz.ntmps101
  go_wp2_with fail
  refine (unhide H1).mono ?_
  rintro e w2 ⟨rfl, hB2⟩
  have q0 := cell_be v2 hB2
  have q1 := cell_be v3 hB2
  have H3 := hide (unhide H2 w2 hB2)
  have HB2 := hide hB2
  clear H1 H2 hB2 v0 v1 v2 v3
  go_wp2_with fail
  refine (unhide H3).mono ?_
  rintro e w3 ⟨rfl, hB3'⟩
  have HB3 := hide ((unhide HB2).trans (hB3'.mono (unhide HB2).size))
  clear hB3' HB2 H3 q0 q1
  go_wp2_with fail
  refine (unhide HRd w3).mono ?_
  rintro e w4 ⟨v, rfl, own, hB4⟩
  obtain ⟨a, vc, rfl⟩ := Nm.own_form own
  obtain ⟨g1, g2, g3, g4, hB, hs, D, hr, hf, hps, hR⟩ := unhide HG
  obtain ⟨Z, hZ, gZ, hBZ⟩ : ∃ Z, w4.alloc (.cells #[.bool ro, .bool st, .slice a ps.length vc] 234) = Z ∧ Z.heap[w4.heap.size]? = some (.cells #[.bool ro, .bool st, .slice a ps.length vc] 234) ∧ Below w4.heap.size w4 Z := ⟨_, rfl, heap_alloc_new _ _, (Below.refl _ _).alloc (Nat.le_refl _) _⟩
  have hB34 := (unhide HB3).trans (hB4.mono (unhide HB3).size)
  have hB5 : Below V.heap.size V Z := hB34.trans (hBZ.mono hB34.size)
  obtain ⟨a0, a1⟩ := Mt.cells2 ((hB5.block _ (by omega)).trans g1)
  obtain ⟨b0, b1⟩ := Mt.cells2 ((hB5.block _ (by omega)).trans g2)
  obtain ⟨d0, d1⟩ := Mt.cells2 ((hB5.block _ (by omega)).trans g3)
  have k4 := (hB5.block _ (by omega)).trans g4
  have hBW : Below W.heap.size W Z := hB.trans (hB5.mono (by omega))
  have DZ := D.below hBW
  have HDn := hide (fun x y V' g' => down_W DZ x y rfl rfl V' g')
  have hwf1 : (kl (E.down E.rm E.rn).2).wf = true := down_wf D.wf hr
  have hwf2 : (kl (E.down fm fn).2).wf = true := down_wf D.wf hf
  have hrw : Rw Z a ps := (Rw.of_own own).keep fun k cur hc => hBZ.block k (lt_of_heap hc)
  have hcap : ps.length ≤ vc ∧ vc ≤ maxLen := by
    obtain ⟨hl, ⟨h1, hz⟩ | ⟨g', cap', cur, h1, -, -, hcap, hcm, -, -⟩⟩ := own
    · simp only [Value.slice.injEq] at h1
      unfold maxLen
      omega
    · simp only [Value.slice.injEq] at h1
      obtain ⟨-, -, rfl⟩ := h1
      exact ⟨hcap, hcm⟩
  have hlw4 : V.heap.size ≤ w4.heap.size := hB34.size
  have hlZ : w4.heap.size < Z.heap.size := lt_of_heap gZ
  have HM := hide (⟨k4, hBW, DZ, hwf1, hwf2, hrw, hcap.1, hcap.2, hps, gZ, hR, hlw4⟩ : _ ∧ _ ∧ _ ∧ _ ∧ _ ∧ _ ∧ _ ∧ _ ∧ _ ∧ _ ∧ _ ∧ _)
  have n1 : W.heap.size ≠ Z.heap.size := by omega
  have n2 : W.heap.size + 1 ≠ Z.heap.size := by omega
  have n3 : W.heap.size + 1 + 1 ≠ Z.heap.size := by omega
  have n4 := n1.symm
  have n5 := n2.symm
  have n6 := n3.symm
  have hsV : V.heap.size = W.heap.size + 4 := hs
  have HsV := hide hsV
  have hWZ : W.heap.size + 5 ≤ Z.heap.size := by omega
  clear g1 g2 g3 g4 hB hs D hr hf hps hR gZ hBZ hB34 hB5 hBW DZ hwf1 hwf2 hrw hcap own HG hB4 HB3 HRd k4 hlw4 hsV
  go_wp2_with fail
  go_cut [19] from 43 to 52 (fun s19 wk => ∃ bw, s19 = P0 bw ∧ Wn wk bw t m E.downed (E.down fm fn).1 (E.down fm fn).2 0 ∧ Below Z.heap.size Z wk ∧ Z.heap.size ≤ bw)
  case first =>
    go_region_held3 (fun w' => w'.cell? ⟨W.heap.size, 0, none⟩ = some (I E.rm) ∧ w'.cell? ⟨W.heap.size, 1, none⟩ = some (I E.rn) ∧ w'.cell? ⟨W.heap.size + 1, 0, none⟩ = some (I fm) ∧ w'.cell? ⟨W.heap.size + 1, 1, none⟩ = some (I fn) ∧ w'.cell? ⟨W.heap.size + 1 + 1, 0, none⟩ = some (I E.cu) ∧ w'.cell? ⟨W.heap.size + 1 + 1, 1, none⟩ = some (I E.cg)) (go_keep)
      (first
        | (go_at_call 38; refine (unhide HDn _ _ w6 (unhide HBZ).1).mono ?_; rintro e w7 ⟨rfl, HB7⟩; have hB7 := (unhide HBZ).1.trans ((unhide HB7).mono (unhide HBZ).1.size); have hle7 : Z.heap.size ≤ Z.heap.size := Nat.le_refl _; have g7 := ((unhide HB7).block _ (lt_of_heap (unhide HBZ).2)).trans (unhide HBZ).2; obtain ⟨Y, hY, hYb, hYB, hYk⟩ := set9 g7 (P0 t) (P0 m) (I E.cu) (I E.cg) (I (E.down E.rm E.rn).1) (I (E.down E.rm E.rn).2) (I (E.down fm fn).1) (I (E.down fm fn).2) (I 0); obtain ⟨o0, o1, o2, o3, o4, o5, o6, o7, o8, of⟩ := cells9 g7; have r0 := cell_be a0 hB7; have r1 := cell_be a1 hB7; have r2 := cell_be b0 hB7; have r3 := cell_be b1 hB7; have r4 := cell_be d0 hB7; have r5 := cell_be d1 hB7; have HYe := hide hY; have HOn := hide (⟨hYb, hYB _ _ hB7 hle7, hle7⟩ : _ ∧ _ ∧ _); clear hY hYb hYB hYk hB7 g7)
        | (go_at_call 38; refine (unhide HDn _ _ w6 (unhide HBN)).mono ?_; rintro e w7 ⟨rfl, HB7⟩; have hB7 := (unhide HBN).trans ((unhide HB7).mono (unhide HBN).size); have r0 := cell_be a0 hB7; have r1 := cell_be a1 hB7; have r2 := cell_be b0 hB7; have r3 := cell_be b1 hB7; have r4 := cell_be d0 hB7; have r5 := cell_be d1 hB7; have HBE := hide hB7; clear hB7)
        | (go_at_call 38; refine (unhide HDn _ _ (Z.alloc (.cells #[.pointer none, .pointer none, I 0, I 0, I 0, I 0, I 0, I 0, I 0] 238)).drew (below_drew ((Below.refl _ Z).alloc (Nat.le_refl _) _))).mono ?_; rintro e w6 ⟨rfl, HB6⟩; have hB6 := (below_drew ((Below.refl Z.heap.size Z).alloc (Nat.le_refl _) (.cells #[.pointer none, .pointer none, I 0, I 0, I 0, I 0, I 0, I 0, I 0] 238))).trans ((unhide HB6).mono (by show Z.heap.size ≤ (Z.alloc _).heap.size; simp)); have hz6 := ((unhide HB6).block Z.heap.size (by show Z.heap.size < (Z.alloc _).heap.size; simp)).trans (heap_alloc_new Z (.cells #[.pointer none, .pointer none, I 0, I 0, I 0, I 0, I 0, I 0, I 0] 238)); have q0 := cell_be a0 hB6; have q1 := cell_be a1 hB6; have q2 := cell_be b0 hB6; have q3 := cell_be b1 hB6; have q4 := cell_be d0 hB6; have q5 := cell_be d1 hB6; have HBZ := hide (⟨hB6, hz6⟩ : _ ∧ _); clear hB6 hz6)
        | (go_at_call 38; refine (unhide HDn _ _ Z.drew (below_drew (Below.refl _ Z))).mono ?_; rintro e w6 ⟨rfl, HB6⟩; have hB6 := (below_drew (Below.refl Z.heap.size Z)).trans (unhide HB6); have q0 := cell_be a0 hB6; have q1 := cell_be a1 hB6; have q2 := cell_be b0 hB6; have q3 := cell_be b1 hB6; have q4 := cell_be d0 hB6; have q5 := cell_be d1 hB6; have HBN := hide hB6; clear hB6)
        | (go_at_call 38; refine (unhide HDn _ _ (w6.alloc (.cells #[.pointer none, .pointer none, I 0, I 0, I 0, I 0, I 0, I 0, I 0] 238)) ((unhide HBN).alloc (unhide HBN).size _)).mono ?_; rintro e w7 ⟨rfl, HB7⟩; have hB6 := (unhide HBN).alloc (unhide HBN).size (.cells #[.pointer none, .pointer none, I 0, I 0, I 0, I 0, I 0, I 0, I 0] 238); have hB7 := hB6.trans ((unhide HB7).mono hB6.size); have hle7 : Z.heap.size ≤ w6.heap.size := (unhide HBN).size; have g7 := ((unhide HB7).block w6.heap.size (by simp)).trans (heap_alloc_new w6 (.cells #[.pointer none, .pointer none, I 0, I 0, I 0, I 0, I 0, I 0, I 0] 238)); have m1 : W.heap.size ≠ w6.heap.size := (by omega); have m2 : W.heap.size + 1 ≠ w6.heap.size := (by omega); have m3 : W.heap.size + 1 + 1 ≠ w6.heap.size := (by omega); have m4 := m1.symm; have m5 := m2.symm; have m6 := m3.symm; clear hB6; obtain ⟨Y, hY, hYb, hYB, hYk⟩ := set9 g7 (P0 t) (P0 m) (I E.cu) (I E.cg) (I (E.down E.rm E.rn).1) (I (E.down E.rm E.rn).2) (I (E.down fm fn).1) (I (E.down fm fn).2) (I 0); obtain ⟨o0, o1, o2, o3, o4, o5, o6, o7, o8, of⟩ := cells9 g7; have r0 := cell_be a0 hB7; have r1 := cell_be a1 hB7; have r2 := cell_be b0 hB7; have r3 := cell_be b1 hB7; have r4 := cell_be d0 hB7; have r5 := cell_be d1 hB7; have HYe := hide hY; have HOn := hide (⟨hYb, hYB _ _ hB7 hle7, hle7⟩ : _ ∧ _ ∧ _); clear hY hYb hYB hYk hB7 g7))
    · rename_i hHeld
      clear hHeld r0 r1 r2 r3 r4 r5 q0 q1 q2 q3 q4 q5
      obtain ⟨Q, hQ, hQ1, hQ2⟩ : ∃ Q, w7.alloc (.cells (wkC E.downed t m (E.down fm fn).1 (E.down fm fn).2 0) 238) = Q ∧ Wn Q w7.heap.size t m E.downed (E.down fm fn).1 (E.down fm fn).2 0 ∧ Below Z.heap.size Z Q := ⟨_, rfl, heap_alloc_new w7 _, (unhide HBE).alloc (unhide HBE).size _⟩
      have HQ := hide (⟨hQ1, hQ2, (unhide HBE).size⟩ : _ ∧ _ ∧ _)
      have HQe := hide hQ
      clear hQ1 hQ2 hQ
      go_wp2_with fail
      go_meet
      case rel =>
        refine ⟨w7.heap.size, rfl, ?_⟩
        have := unhide HQ
        rw [← unhide HQe] at this
        exact this
    all_goals
      rename_i hHeld
      clear hHeld r0 r1 r2 r3 r4 r5 q0 q1 q2 q3 q4 q5
      rw [unhide HYe]
      clear o0 o1 o2 o3 o4 o5 o6 o7 o8 of HYe
      go_wp2_with fail
      go_meet
      case rel => exact ⟨_, rfl, (unhide HOn).1, (unhide HOn).2.1, (unhide HOn).2.2⟩
  case rest =>
    obtain ⟨bw, rfl, hWn, hBk, hle⟩ := hcut
    obtain ⟨k4, hBW, DZ, hwf1, hwf2, hrw, hcap1, hcap2, hps, gZ, hR, hlw4⟩ := unhide HM
    have DA := DZ.downed.below hBk
    have hrwA := hrw.keep fun k cur hc => hBk.block k (lt_of_heap hc)
    have HAl := hide (along_any (p := ⟨ro, st, ps⟩) DA hWn hwf2 hwf1 hrwA hcap1 hcap2 hps (Nat.zero_le _) R hR)
    rw [show E.downed.follow = fw from unhide Hfw] at HAl
    have gA := (hBk.block _ (lt_of_heap gZ)).trans gZ
    obtain ⟨p0, p1, p2, -⟩ := cells3 gA
    have kA := (hBk.block _ (lt_of_heap k4)).trans k4
    obtain ⟨F, hF⟩ : ∃ F, R.f = F := ⟨_, rfl⟩
    rw [hF] at HAl
    unfold Fd.v at HAl
    have HFh := hide hF
    have hbwl := hWn.lt
    have hhl := lt_of_heap k4
    have HN := hide (⟨hBW.trans (hBk.mono hBW.size), kA⟩ : _ ∧ _)
    have hWh : W.heap.size + 1 + 1 + 1 < bw := by omega
    obtain ⟨st2, hst2⟩ : ∃ z : Nat, R.steps = z := ⟨_, rfl⟩
    obtain ⟨wy, hwy⟩ : ∃ z, R.why = z := ⟨_, rfl⟩
    rw [hst2, hwy] at HAl
    have Hs2 := hide hst2
    have Hwy := hide hwy
    clear hWn hBk k4 hBW DZ hwf1 hwf2 hrw hcap1 hcap2 hps gZ hR hlw4 DA hrwA gA kA HM hF a0 a1 b0 b1 d0 d1 HDn hst2 hwy n1 n2 n3 n4 n5 n6
    generalize ps.length = pl at *
    go_wp2_with fail
    refine (unhide HAl).mono ?_
    rintro e w8 ⟨rfl, hW8, hF8⟩
    obtain ⟨hBA, kA⟩ := unhide HN
    have hb8 := hF8.size
    have k8 := (hF8.blk _ (lt_of_heap kA) (by simp; omega)).trans kA
    obtain ⟨Q, hQ, gQ, hBQ⟩ : ∃ Q, w8.alloc (.cells #[I F.dm, I F.dn, .string (bs F.last), I F.am, I F.an, .bool F.has, .bool F.slash] 59) = Q ∧ Q.heap[w8.heap.size]? = some (.cells #[I F.dm, I F.dn, .string (bs F.last), I F.am, I F.an, .bool F.has, .bool F.slash] 59) ∧ Below w8.heap.size w8 Q := ⟨_, rfl, heap_alloc_new _ _, (Below.refl _ _).alloc (Nat.le_refl _) _⟩
    have kQ := (hBQ.block _ (lt_of_heap k8)).trans k8
    obtain ⟨-, -, -, -, -, -, -, -, u8, -⟩ := (hW8.below hBQ).cells
    obtain ⟨e0, e1, e2, e3, e4, e5, e6, -⟩ := cells7 gQ
    obtain ⟨r0, r1, r2, r3, r4, r5, r6, rf⟩ := cells7 kQ
    obtain ⟨Y, hY, hYb, hYB⟩ := set7d kQ (I F.dm) (I F.dn) (.string (bs F.last)) (I F.am) (I F.an) (.bool F.has) (.bool F.slash)
    obtain ⟨z0, z1, z2, z3, z4, z5, z6, -⟩ := cells7 hYb
    have hBF : Below W.heap.size W Q := by
      refine (hBA.trans (hF8.base (B := W.heap.size) hBA.size (by simp; omega))).trans (hBQ.mono ?_)
      exact Nat.le_trans hBA.size hb8
    have HY := hide hY
    have HYB := hide (hYB _ _ hBF (by omega))
    have j1 : W.heap.size + 1 + 1 + 1 ≠ w8.heap.size := by have := lt_of_heap k8; omega
    have j2 := j1.symm
    have j3 : bw ≠ W.heap.size + 1 + 1 + 1 := by omega
    have j4 := j3.symm
    clear hW8 hF8 hBA kA hb8 k8 gQ hBQ kQ hY hYb hYB hBF HAl HN p0 p1 p2
    go_wp2_with fail
    go_region_held3 (fun w' => w'.cell? ⟨w8.heap.size, 0, none⟩ = some (I F.dm) ∧ w'.cell? ⟨w8.heap.size, 1, none⟩ = some (I F.dn) ∧ w'.cell? ⟨w8.heap.size, 2, none⟩ = some (.string (bs F.last)) ∧ w'.cell? ⟨w8.heap.size, 3, none⟩ = some (I F.am) ∧ w'.cell? ⟨w8.heap.size, 4, none⟩ = some (I F.an) ∧ w'.cell? ⟨w8.heap.size, 5, none⟩ = some (.bool F.has) ∧ w'.cell? ⟨w8.heap.size, 6, none⟩ = some (.bool F.slash) ∧ w'.cell? ⟨bw, 8, none⟩ = some (I (st2 : Int))) (go_keep) (fail)
    rw [unhide HY]
    go_wp2_with fail
    refine bodyPost_ret (v := .tuple #[.agg #[I F.dm, I F.dn, .string (bs F.last), I F.am, I F.an, .bool F.has, .bool F.slash], I (st2 : Int), I wy]) (by simp [results, Tryz.results101, go_sem, z0, z1, z2, z3, z4, z5, z6]) rfl ?_
    refine ⟨?_, unhide HYB⟩
    rw [unhide HFh, unhide Hs2, unhide Hwy]
    rfl
end
end Go.Proofs.YtlngeaacjbdmhaaGreat.Wl

namespace Go.Proofs.YtlngeaacjbdmhaaGreat.Wl
open Go.RowKit
attribute [local go_sem ↓] Go.wp_at_zero Go.wp_at_succ
section
variable {lo N mb : Nat} {W : World} {t m : Nat} {E : En}
theorem walk_any (D : Wd lo N mb W t m E) (fm fn : Int) (hr : (kl E.rn).wf = true) (hf : (kl fn).wf = true) (path : Bytes) (R : Re) (hR : E.walk fm fn path = R) :
    Calls Tryz.prog 101 #[P0 t, P0 m, .agg #[I E.rm, I E.rn], .agg #[I fm, I fn], .agg #[I E.cu, I E.cg], .string (bs path), .bool E.follow] W fun e w' => e = .returned (.tuple #[R.f.v, I (R.steps : Int), I R.why]) ∧ Below W.heap.size W w' := by
  cases hp : (E.place E.rm E.rn && E.place fm fn) with
  | false =>
    rw [En.walk, if_neg (by simp [hp])] at hR
    subst hR
    exact walk_no D fm fn hr hf path hp
  | true =>
    rw [En.walk, if_pos hp] at hR
    by_cases hx : Nm.err path = 0
    · rw [if_pos hx] at hR
      exact walk_yes D fm fn hr hf path hp hx R hR
    · rw [if_neg hx] at hR
      subst hR
      exact walk_bad D fm fn hr hf path hp _ rfl hx
set_option maxHeartbeats 1000000 in
theorem Walk_any (D : Wd lo N mb W t m E) (fm fn : Int) (hr : (kl E.rn).wf = true) (hf : (kl fn).wf = true) (path : Bytes) (R : Re) (hR : E.walk fm fn path = R) :
    Calls Tryz.prog 27 #[P0 t, P0 m, .agg #[I E.rm, I E.rn], .agg #[I fm, I fn], .agg #[I E.cu, I E.cg], .string (bs path), .bool E.follow] W fun e w' => e = .returned (.tuple #[R.f.v, I R.why]) ∧ Below W.heap.size W w' := by
  obtain ⟨V, hV, g1, g2, g3, g4, hB, hs⟩ := four_new W (.cells #[I E.rm, I E.rn] 50) (.cells #[I fm, I fn] 50) (.cells #[I E.cu, I E.cg] 57) zfd
  unfold zfd at hV g4
  obtain ⟨a0, a1⟩ := Mt.cells2 g1
  obtain ⟨b0, b1⟩ := Mt.cells2 g2
  obtain ⟨d0, d1⟩ := Mt.cells2 g3
  have HW := hide (walk_any (D.below hB) fm fn hr hf path R hR)
  obtain ⟨F, hF⟩ : ∃ F, R.f = F := ⟨_, rfl⟩
  obtain ⟨wy, hwy⟩ : ∃ z, R.why = z := ⟨_, rfl⟩
  rw [hF, hwy] at HW ⊢
  unfold Fd.v at HW ⊢
  have HG := hide (⟨g4, hB, hs⟩ : _ ∧ _ ∧ _)
  clear D g1 g2 g3 g4 hB hs hr hf hR hF hwy
  go_enter Tryz.func27, Tryz.ntmps27
  go_wp2_with fail
  refine (unhide HW).mono ?_
  rintro e w3 ⟨rfl, hB3⟩
  obtain ⟨g4, hB, hs⟩ := unhide HG
  obtain ⟨Q, hQ, gQ, hBQ⟩ : ∃ Q, w3.alloc (.cells #[I F.dm, I F.dn, .string (bs F.last), I F.am, I F.an, .bool F.has, .bool F.slash] 59) = Q ∧ Q.heap[w3.heap.size]? = some (.cells #[I F.dm, I F.dn, .string (bs F.last), I F.am, I F.an, .bool F.has, .bool F.slash] 59) ∧ Below w3.heap.size w3 Q := ⟨_, rfl, heap_alloc_new _ _, (Below.refl _ _).alloc (Nat.le_refl _) _⟩
  have hB5 := hB3.trans (hBQ.mono hB3.size)
  have g5 := (hB5.block _ (by omega)).trans g4
  obtain ⟨e0, e1, e2, e3, e4, e5, e6, -⟩ := cells7 gQ
  obtain ⟨r0, r1, r2, r3, r4, r5, r6, rf⟩ := cells7 g5
  obtain ⟨Y, hY, hYb, hYB⟩ := set7 g5 (I F.dm) (I F.dn) (.string (bs F.last)) (I F.am) (I F.an) (.bool F.has) (.bool F.slash)
  obtain ⟨z0, z1, z2, z3, z4, z5, z6, -⟩ := cells7 hYb
  have HY := hide hY
  have HYB := hide (fin4 hs hB hB5 hYB)
  clear g4 hB hs g5 gQ hBQ hB5 hY hYb hYB hB3 HW HG a0 a1 b0 b1 d0 d1
  go_wp2_with fail
  rw [unhide HY]
  refine bodyPost_ret (v := .tuple #[.agg #[I F.dm, I F.dn, .string (bs F.last), I F.am, I F.an, .bool F.has, .bool F.slash], I wy]) (by simp [results, Tryz.results27, go_sem, z0, z1, z2, z3, z4, z5, z6]) rfl ?_
  exact ⟨rfl, unhide HYB⟩
end
theorem top_any (W : World) : Calls Tryz.prog 28 #[] W fun e w' => e = .returned (.agg #[I 0, I 1]) ∧ Below W.heap.size W w' := by
  obtain ⟨V, hV, g1, hB⟩ : ∃ V, W.alloc (.cells #[I 0, I 0] 50) = V ∧ V.heap[W.heap.size]? = some (.cells #[I 0, I 0] 50) ∧ Below W.heap.size W V := ⟨_, rfl, heap_alloc_new W _, (Below.refl _ W).alloc (Nat.le_refl _) _⟩
  obtain ⟨X1, X2, ⟨x1, x2⟩, ⟨y0, y1⟩, ⟨f0, f1⟩, hX, -, hXB, -⟩ := ans2 g1 (Below.refl _ V) (I 0) (I 1)
  have z0 : X2.cell? ⟨W.heap.size, 0, none⟩ = some (I 0) := by rw [cell_of hX]; rfl
  have z1 : X2.cell? ⟨W.heap.size, 1, none⟩ = some (I 1) := by rw [cell_of hX]; rfl
  have HX := hide (hXB _ _ hB (Nat.le_refl _))
  clear hX hXB g1 hB
  go_enter Tryz.func28, Tryz.ntmps28
  go_wp2_with fail
  refine bodyPost_ret (v := .agg #[I 0, I 1]) (by simp [results, Tryz.results28, go_sem, z0, z1]) rfl ?_
  exact ⟨rfl, unhide HX⟩
end Go.Proofs.YtlngeaacjbdmhaaGreat.Wl

namespace Go.Proofs.YtlngeaacjbdmhaaGreat.Wl
open Go.RowKit
def E0 (T : Tr) : En := ⟨T, 1, 0, [], 0, 0, 0, 1, true⟩
def T9 : Tr := Tr.new 9 0
def T9a : Tr := T9.make 1 ⟨#[97]⟩ 1 0 0 0 ⟨#[]⟩
theorem known_1 : (E0 T9).walk 0 1 [47, 97, 47, 98] = ⟨none, Fd.none, 32, 0, 1, 1⟩ := by kernel_rfl
theorem known_n : T9.makeN 1 ⟨#[97]⟩ 1 ⟨#[]⟩ = 2 ∧ T9.makeE 1 ⟨#[97]⟩ 1 ⟨#[]⟩ = 0 := ⟨by kernel_rfl, by kernel_rfl⟩
theorem known_2 : (E0 T9a).walk 0 1 [47, 97, 47, 98] = ⟨none, ⟨0, 2, [98], 0, 0, false, false⟩, 0, 0, 2, 2⟩ := by kernel_rfl
theorem known_3 : (E0 T9a).walk 0 1 [47, 46, 46] = ⟨none, ⟨0, 1, [], 0, 1, true, false⟩, 0, 0, 1, 1⟩ := by kernel_rfl
theorem Wd.of {lo N mb : Nat} {W : World} {t m : Nat} {T : Tr} {B : Nat} (h : Tq lo N W t T B) (hB : B ≤ 880) (ls : Mt.Ls mb W m 1 0 []) : Wd lo N mb W t m (E0 T) :=
  ⟨h.p, h.f.k.mono hB, ls, fun p hp => by simp [E0] at hp, by simp [E0], fun p hp => by simp [E0] at hp⟩
theorem Ls_tx {lo mb : Nat} {W W' : World} {m : Nat} {rt md : Int} {es : Mt.Ents} (h : Mt.Ls mb W m rt md es) (g : Tx lo W W') : Mt.Ls mb W' m rt md es := by
  refine h.keep fun k cur ty hc ht => ?_
  have hty : ty = 221 ∨ ty = 182 := by
    rcases ht with rfl | rfl
    · obtain ⟨a, cap, h2, _⟩ := h.hb
      rw [hc] at h2
      simp at h2
      exact .inl h2.2
    · exact .inr rfl
  refine (g.oth k cur ty (0, 0) hc ?_ ?_ ?_ ?_ ?_).trans hc.symm <;> (rcases hty with rfl | rfl <;> decide)
end Go.Proofs.YtlngeaacjbdmhaaGreat.Wl

namespace Go.Proofs.YtlngeaacjbdmhaaGreat.Bt
open Go.RowKit
def tyA (t : TypeId) : Prop := t = 202 ∨ t = 261 ∨ t = 125 ∨ t = 129 ∨ t = 256
def tyC (t : TypeId) : Prop := t = 221 ∨ t = 182
def tyD (t : TypeId) : Prop := t = 226 ∨ t = 223
structure Ke (P : TypeId → Prop) (W W' : World) : Prop where
  sz : W.heap.size ≤ W'.heap.size
  ce : ∀ (b : Nat) (cs : Array Value) (t : TypeId) (f : Nat × Nat), W.heap[b]? = some (.cells cs t f) → ¬ P t → W'.heap[b]? = some (.cells cs t f)
section
variable {P : TypeId → Prop} {W W' : World} {lo N mb m t r R : Nat} {T : Tr} {B : Nat} {M : Mt.T} {K : Int} {rs : List Mt.Rm}
theorem Ke.below (g : Below W.heap.size W W') : Ke P W W' := ⟨g.size, fun b _ _ _ e _ => (g.block b (lt_of_heap e)).trans e⟩
theorem Ke.tx (g : Tx lo W W') : Ke tyA W W' := ⟨g.size, fun b cs t f e h => g.oth b cs t f e (fun e => h (by simp [tyA, e])) (fun e => h (by simp [tyA, e])) (fun e => h (by simp [tyA, e])) (fun e => h (by simp [tyA, e])) (fun e => h (by simp [tyA, e]))⟩
theorem Ke.rx (g : Rf.Rx lo W W') : Ke Rf.rty W W' := ⟨g.bel.size, fun b cs t f e h => (g.oth b cs t f e h).trans e⟩
theorem Ke.fm {rt md : Int} {es : Mt.Ents} (h : Mt.Ls mb W m rt md es) (g : Mt.Fm mb m W W') : Ke tyC W W' := by
  refine ⟨g.size, fun b cs t f e ht => g.blk b _ e ?_ ?_⟩
  · rintro rfl
    obtain ⟨a, cap, h2, _⟩ := h.hb
    rw [h2] at e
    cases e
    exact ht (by simp [tyC])
  · intro cur e2
    cases e2
    exact ht (by simp [tyC])
theorem Ke.fq (h : Mt.Rs mb W m rs) (g : Mt.Fq mb m W W') : Ke tyD W W' := by
  refine ⟨g.size, fun b cs t f e ht => g.blk b _ e ?_ ?_⟩
  · rintro rfl
    obtain ⟨a, cap, h2, _⟩ := h.hb
    rw [h2] at e
    cases e
    exact ht (by simp [tyD])
  · intro cur e2
    cases e2
    exact ht (by simp [tyD])
theorem Tq_ke (h : Tq lo N W t T B) (k : Ke P W W') (hm : ∀ (b : Nat) (es : Array MapEntry) (k : Nat), W.heap[b]? = some (.map es k) → W'.heap[b]? = W.heap[b]?) (hP : ∀ t, tyA t → ¬ P t) : Tq lo N W' t T B :=
  ⟨h.p.keep k.sz hm fun b cs t f e ht => (k.ce b cs t f e (hP t ht)).trans e.symm, h.f⟩
theorem Dq_ke (h : Rf.Dq lo N W r T) (k : Ke P W W') (hP : ∀ t, Rf.rty t → ¬ P t) : Rf.Dq lo N W' r T := h.keep k.sz fun b cs t f e ht => (k.ce b cs t f e (hP t ht)).trans e.symm
theorem Ls_ke (h : Mt.Tq K mb W m M) (k : Ke P W W') (hP : ∀ t, tyC t → ¬ P t) : Mt.Tq K mb W' m M := by
  refine ⟨h.ls.keep fun b cur ty e ht => (k.ce b cur ty _ e (hP ty ?_)).trans e.symm, h.wf⟩
  rcases ht with rfl | rfl
  · obtain ⟨a, cap, h2, _⟩ := h.ls.hb
    rw [h2] at e
    cases e
    simp [tyC]
  · simp [tyC]
theorem Rs_ke (h : Mt.Rs mb W m rs) (k : Ke P W W') (hP : ∀ t, tyD t → ¬ P t) : Mt.Rs mb W' m rs := by
  refine h.keep fun b cur ty e ht => (k.ce b cur ty _ e (hP ty ?_)).trans e.symm
  rcases ht with rfl | rfl
  · obtain ⟨a, cap, h2, _⟩ := h.hb
    rw [h2] at e
    cases e
    simp [tyD]
  · simp [tyD]
theorem AB : ∀ t, tyA t → ¬ Rf.rty t := by rintro t (rfl | rfl | rfl | rfl | rfl) <;> (unfold Rf.rty; decide)
theorem AC : ∀ t, tyA t → ¬ tyC t := by rintro t (rfl | rfl | rfl | rfl | rfl) <;> (unfold tyC; decide)
theorem AD : ∀ t, tyA t → ¬ tyD t := by rintro t (rfl | rfl | rfl | rfl | rfl) <;> (unfold tyD; decide)
theorem BC : ∀ t, Rf.rty t → ¬ tyC t := by rintro t (rfl | rfl | rfl | rfl | rfl | rfl | rfl | rfl) <;> (unfold tyC; decide)
theorem BD : ∀ t, Rf.rty t → ¬ tyD t := by rintro t (rfl | rfl | rfl | rfl | rfl | rfl | rfl | rfl) <;> (unfold tyD; decide)
theorem CD : ∀ t, tyC t → ¬ tyD t := by rintro t (rfl | rfl) <;> (unfold tyD; decide)
theorem flip {P Q : TypeId → Prop} (h : ∀ t, P t → ¬ Q t) : ∀ t, Q t → ¬ P t := fun t q p => h t p q
end
def own (t : TypeId) : Prop := ¬ tyA t ∧ ¬ Rf.rty t ∧ ¬ tyC t ∧ ¬ tyD t
theorem own_both : own 46 := by unfold own tyA Rf.rty tyC tyD; decide
theorem own_act : own 52 := by unfold own tyA Rf.rty tyC tyD; decide
theorem own_cred : own 57 := by unfold own tyA Rf.rty tyC tyD; decide
theorem own_found : own 59 := by unfold own tyA Rf.rty tyC tyD; decide
def Kp (W W' : World) : Prop := ∀ (b : Nat) (cs : Array Value) (t : TypeId) (f : Nat × Nat), W.heap[b]? = some (.cells cs t f) → own t → W'.heap[b]? = some (.cells cs t f)
theorem Kp.refl (W : World) : Kp W W := fun _ _ _ _ e _ => e
theorem Kp.trans {u v w : World} (h : Kp u v) (g : Kp v w) : Kp u w := fun b cs t f e ht => g b cs t f (h b cs t f e ht) ht
theorem Kp.of {P : TypeId → Prop} {W W' : World} (k : Ke P W W') (h : ∀ t, own t → ¬ P t) : Kp W W' := fun b cs t f e ht => k.ce b cs t f e (h t ht)
theorem oA : ∀ t, own t → ¬ tyA t := fun _ h => h.1
theorem oB : ∀ t, own t → ¬ Rf.rty t := fun _ h => h.2.1
theorem oC : ∀ t, own t → ¬ tyC t := fun _ h => h.2.2.1
theorem oD : ∀ t, own t → ¬ tyD t := fun _ h => h.2.2.2
structure Bx (t m r R l0 l1 : Nat) (B : Nat) (K : Int) (w W : World) (T T2 : Tr) (M M2 : Mt.T) (rs : List Mt.Rm) : Prop where
  q : Tq l0 20 W t T B
  d : Rf.Dq l1 20 W r T2
  f : Wf B T2
  l : L16 T2
  a : Mt.Tq K m W m M
  b : Mt.Rs R W (R + 1) rs
  rt : Mt.RT M2 rs
  mf : Mt.Wf K M2
  be : Below w.heap.size w W
  le : w.heap.size ≤ l0 ∧ w.heap.size ≤ l1 ∧ w.heap.size ≤ m ∧ w.heap.size ≤ R
section
variable {t m r R l0 l1 B B' : Nat} {K : Int} {w W W' : World} {T T' T2 : Tr} {M M2 : Mt.T} {rs : List Mt.Rm}
theorem Bx.below (s : Bx t m r R l0 l1 B K w W T T2 M M2 rs) (g : Below W.heap.size W W') : Bx t m r R l0 l1 B K w W' T T2 M M2 rs := ⟨s.q.below g, s.d.below g, s.f, s.l, s.a.below g, s.b.below g, s.rt, s.mf, s.be.trans (g.mono s.be.size), s.le⟩
theorem Bx.mono (s : Bx t m r R l0 l1 B K w W T T2 M M2 rs) (h : B ≤ B') {K' : Int} (hk : K ≤ K') : Bx t m r R l0 l1 B' K' w W T T2 M M2 rs := ⟨s.q.mono h, s.d, s.f.mono h, s.l, ⟨s.a.ls, s.a.wf.mono hk⟩, s.b, s.rt, s.mf.mono hk, s.be, s.le⟩
theorem Bx.tx (s : Bx t m r R l0 l1 B K w W T T2 M M2 rs) (h : Tq l0 20 W' t T' B') (g : Tx l0 W W') (hb : B ≤ B') : Bx t m r R l0 l1 B' K w W' T' T2 M M2 rs ∧ Kp W W' :=
  ⟨⟨h, Dq_ke s.d (Ke.tx g) (flip AB), s.f.mono hb, s.l, Ls_ke s.a (Ke.tx g) (flip AC), Rs_ke s.b (Ke.tx g) (flip AD), s.rt, s.mf, s.be.trans (g.bel.mono s.le.1), s.le⟩, .of (Ke.tx g) oA⟩
theorem Bx.rx (s : Bx t m r R l0 l1 B K w W T T2 M M2 rs) (h : Rf.De l1 20 W W' r T') (hf : Wf B' T') (hl : L16 T') (hb : B ≤ B') : Bx t m r R l0 l1 B' K w W' T T' M M2 rs ∧ Kp W W' :=
  ⟨⟨(Tq_ke s.q (Ke.rx h.2) h.2.mps AB).mono hb, h.1, hf, hl, Ls_ke s.a (Ke.rx h.2) (flip BC), Rs_ke s.b (Ke.rx h.2) (flip BD), s.rt, s.mf, s.be.trans (h.2.bel.mono s.le.2.1), s.le⟩, .of (Ke.rx h.2) oB⟩
theorem Bx.fm (s : Bx t m r R l0 l1 B K w W T T2 M M2 rs) {K' : Int} {M' : Mt.T} (h : Mt.Tq K' m W' m M') (g : Mt.Fm m m W W') (hk : K ≤ K') : Bx t m r R l0 l1 B K' w W' T T2 M' M2 rs ∧ Kp W W' :=
  have k := Ke.fm s.a.ls g
  ⟨⟨Tq_ke s.q k (fun b es c e => (g.blk b _ e (by
      rintro rfl
      obtain ⟨a, cap, h2, _⟩ := s.a.ls.hb
      rw [h2] at e
      cases e) (by intro cur e2; cases e2)).trans e.symm) AC, Dq_ke s.d k BC, s.f, s.l, h, Rs_ke s.b k (flip CD), s.rt, s.mf.mono hk, s.be.trans (g.below.mono s.le.2.2.1), s.le⟩, .of k oC⟩
theorem Bx.fq (s : Bx t m r R l0 l1 B K w W T T2 M M2 rs) {K' : Int} {M' : Mt.T} {rs' : List Mt.Rm} (h : Mt.Rs R W' (R + 1) rs') (hr : Mt.RT M' rs') (hw : Mt.Wf K' M') (g : Mt.Fq R (R + 1) W W') (hk : K ≤ K') : Bx t m r R l0 l1 B K' w W' T T2 M M' rs' ∧ Kp W W' :=
  have k := Ke.fq s.b g
  ⟨⟨Tq_ke s.q k (fun b es c e => (g.blk b _ e (by
      rintro rfl
      obtain ⟨a, cap, h2, _⟩ := s.b.hb
      rw [h2] at e
      cases e) (by intro cur e2; cases e2)).trans e.symm) AD, Dq_ke s.d k BD, s.f, s.l, ⟨(Ls_ke s.a k CD).ls, s.a.wf.mono hk⟩, h, hr, hw, s.be.trans (g.below.mono s.le.2.2.2), s.le⟩, .of k oD⟩
theorem Bx.kpb (g : Below W.heap.size W W') : Kp W W' := fun b _ _ _ e _ => (g.block b (lt_of_heap e)).trans e
/-! The calls, told of both. -/
theorem tMake (s : Bx t m r R l0 l1 B K w W T T2 M M2 rs) (hB : B ≤ 860) {dir : Int} (hn : (kl dir).wf = true) (z : ByteArray) (a kind mode uid gid f g : Int) (text : ByteArray) (hz : text.size ≤ 281474976710656) :
    Calls Tryz.prog 62 #[P0 t, I dir, .string z, .agg #[I a, I kind, I mode, I uid, I gid, I f, I g], .string text] W fun e w' => e = .returned (.tuple #[I (T.makeN dir z kind text), I (T.makeE dir z kind text)]) ∧ Hid (Bx t m r R l0 l1 (B + 2) K w w' (T.make dir z kind mode uid gid text) T2 M M2 rs ∧ Kp W w') := by
  refine (make_Q s.q (by omega) hn z a kind mode uid gid f g text hz _ _ _ rfl rfl rfl).mono ?_
  rintro e w' ⟨rfl, h1, h2⟩
  exact ⟨rfl, hide (s.tx (unhide h1) (unhide h2) (by omega))⟩
theorem dMake (s : Bx t m r R l0 l1 B K w W T T2 M M2 rs) (hB : B ≤ 860) {dir : Int} (hn : (kl dir).wf = true) (z : ByteArray) (hs : z.size ≤ 100000) (a kind mode uid gid f g : Int) (text : ByteArray) (hz : text.size ≤ 281474976710656) :
    Calls Tryz.prog 65 #[P0 r, I dir, .string z, .agg #[I a, I kind, I mode, I uid, I gid, I f, I g], .string text] W fun e w' => e = .returned (.tuple #[I (T2.makeN dir z kind text), I (T2.makeE dir z kind text)]) ∧ Hid (Bx t m r R l0 l1 (B + 2) K w w' T (T2.make dir z kind mode uid gid text) M M2 rs ∧ Kp W w') := by
  refine (Rf.dMake_D s.d s.f (by omega) dir z hn hs a kind mode uid gid f g text hz s.l).mono ?_
  rintro e w' ⟨rfl, h1⟩
  exact ⟨rfl, hide (s.rx h1 (s.f.make dir z kind mode uid gid text hz) (s.l.make s.f dir z kind mode uid gid text) (by omega))⟩
theorem tJoin (s : Bx t m r R l0 l1 B K w W T T2 M M2 rs) (hB : B ≤ 860) {dir n : Int} (hn : (kl dir).wf = true) (hnn : (kl n).wf = true) (z : ByteArray) :
    Calls Tryz.prog 66 #[P0 t, I dir, .string z, I n] W fun e w' => e = .returned (I (T.joinE dir z n)) ∧ Hid (Bx t m r R l0 l1 (B + 2) K w w' (T.join dir z n) T2 M M2 rs ∧ Kp W w') := by
  refine (join_Q s.q (by omega) hn hnn z _ _ rfl rfl).mono ?_
  rintro e w' ⟨rfl, h1, h2⟩
  exact ⟨rfl, hide (s.tx ((unhide h1).mono (by omega)) (unhide h2) (by omega))⟩
theorem dJoin (s : Bx t m r R l0 l1 B K w W T T2 M M2 rs) (hB : B ≤ 860) {dir n : Int} (hn : (kl dir).wf = true) (hnn : (kl n).wf = true) (z : ByteArray) (hs : z.size ≤ 100000) :
    Calls Tryz.prog 67 #[P0 r, I dir, .string z, I n] W fun e w' => e = .returned (I (T2.joinE dir z n)) ∧ Hid (Bx t m r R l0 l1 (B + 2) K w w' T (T2.join dir z n) M M2 rs ∧ Kp W w') := by
  refine (Rf.dJoin_D s.d s.f (by omega) dir n z hn hnn hs (fun y hy hk => s.l.names hy hk)).mono ?_
  rintro e w' ⟨rfl, h1⟩
  exact ⟨rfl, hide (s.rx h1 ((s.f.join dir z n).mono (by omega)) (s.l.join s.f dir z n) (by omega))⟩
theorem tPart (s : Bx t m r R l0 l1 B K w W T T2 M M2 rs) (hB : B ≤ 860) {dir : Int} (hn : (kl dir).wf = true) (z : ByteArray) :
    Calls Tryz.prog 64 #[P0 t, I dir, .string z] W fun e w' => e = .returned (I (T.partE dir z)) ∧ Hid (Bx t m r R l0 l1 (B + 2) K w w' (T.part dir z) T2 M M2 rs ∧ Kp W w') := by
  refine (part_Q s.q (by omega) hn z _ _ rfl rfl).mono ?_
  rintro e w' ⟨rfl, h1, h2⟩
  exact ⟨rfl, hide (s.tx ((unhide h1).mono (by omega)) (unhide h2) (by omega))⟩
theorem dPart (s : Bx t m r R l0 l1 B K w W T T2 M M2 rs) (hB : B ≤ 860) {dir : Int} (hn : (kl dir).wf = true) (z : ByteArray) :
    Calls Tryz.prog 68 #[P0 r, I dir, .string z] W fun e w' => e = .returned (I (T2.partE dir z)) ∧ Hid (Bx t m r R l0 l1 (B + 2) K w w' T (T2.part dir z) M M2 rs ∧ Kp W w') := by
  refine (Rf.dPart_any s.d s.f (by omega) dir z hn).mono ?_
  rintro e w' ⟨rfl, h1⟩
  exact ⟨rfl, hide (s.rx h1 ((s.f.part dir z).mono (by omega)) (s.l.part s.f dir z) (by omega))⟩
theorem tMove (s : Bx t m r R l0 l1 B K w W T T2 M M2 rs) (hB : B ≤ 860) {dir tq : Int} (hn : (kl dir).wf = true) (hnn : (kl tq).wf = true) (z z2 : ByteArray) {l : List Int} (hl : Ab T tq l) :
    Calls Tryz.prog 69 #[P0 t, I dir, .string z, I tq, .string z2] W fun e w' => e = .returned (I (T.moveE l dir z tq z2)) ∧ Hid (Bx t m r R l0 l1 (B + 2) K w w' (T.move l dir z tq z2) T2 M M2 rs ∧ Kp W w') := by
  refine (move_Q s.q (by omega) hn hnn z z2 hl _ _ rfl rfl).mono ?_
  rintro e w' ⟨rfl, h1, h2⟩
  exact ⟨rfl, hide (s.tx ((unhide h1).mono (by omega)) (unhide h2) (by omega))⟩
theorem dMove (s : Bx t m r R l0 l1 B K w W T T2 M M2 rs) (hB : B ≤ 860) {dir tq : Int} (hn : (kl dir).wf = true) (hnn : (kl tq).wf = true) (z z2 : ByteArray) (hs : z2.size ≤ 100000) {l : List Int} (hl : Ab T2 tq l) :
    Calls Tryz.prog 70 #[P0 r, I dir, .string z, I tq, .string z2] W fun e w' => e = .returned (I (T2.moveE l dir z tq z2)) ∧ Hid (Bx t m r R l0 l1 (B + 2) K w w' T (T2.move l dir z tq z2) M M2 rs ∧ Kp W w') := by
  refine (Rf.dMove_D s.d s.f (by omega) dir z tq z2 l hl hn hnn hs s.l.dirs).mono ?_
  rintro e w' ⟨rfl, h1⟩
  exact ⟨rfl, hide (s.rx h1 ((s.f.move dir z tq z2 hl).mono (by omega)) (s.l.move s.f dir z tq z2) (by omega))⟩
theorem dSetMode (s : Bx t m r R l0 l1 B K w W T T2 M M2 rs) (hB : B ≤ 860) {n : Int} (hn : (kl n).wf = true) (mode : Int) :
    Calls Tryz.prog 41 #[P0 r, I n, I mode] W fun e w' => e = .returned (I (setsE T2 n)) ∧ Hid (Bx t m r R l0 l1 (B + 2) K w w' T (T2.setMode n mode) M M2 rs ∧ Kp W w') := by
  refine (Rf.dSetMode_D s.d s.f.k (by omega) n hn mode).mono ?_
  rintro e w' ⟨rfl, h1⟩
  exact ⟨rfl, hide (s.rx h1 ((s.f.setMode n mode).mono (by omega)) (s.l.setMode n mode) (by omega))⟩
theorem dSetOwner (s : Bx t m r R l0 l1 B K w W T T2 M M2 rs) (hB : B ≤ 860) {n : Int} (hn : (kl n).wf = true) (u g : Int) :
    Calls Tryz.prog 75 #[P0 r, I n, I u, I g] W fun e w' => e = .returned (I (setsE T2 n)) ∧ Hid (Bx t m r R l0 l1 (B + 2) K w w' T (T2.setOwner n u g) M M2 rs ∧ Kp W w') := by
  refine (Rf.dSetOwner_D s.d s.f.k (by omega) n hn u g).mono ?_
  rintro e w' ⟨rfl, h1⟩
  exact ⟨rfl, hide (s.rx h1 ((s.f.setOwner n u g).mono (by omega)) (s.l.setOwner n u g) (by omega))⟩
theorem tSetMode (s : Bx t m r R l0 l1 B K w W T T2 M M2 rs) {n : Int} (hn : (kl n).wf = true) (mode : Int) :
    Calls Tryz.prog 40 #[P0 t, I n, I mode] W fun e w' => e = .returned (I (setsE T n)) ∧ Hid (Bx t m r R l0 l1 (B + 2) K w w' (T.setMode n mode) T2 M M2 rs ∧ Kp W w') := by
  refine (setMode_Q s.q hn mode).mono ?_
  rintro e w' ⟨rfl, h1, h2⟩
  exact ⟨rfl, hide (s.tx ((unhide h1).mono (by omega)) (unhide h2) (by omega))⟩
theorem tSetOwner (s : Bx t m r R l0 l1 B K w W T T2 M M2 rs) {n : Int} (hn : (kl n).wf = true) (u g : Int) :
    Calls Tryz.prog 74 #[P0 t, I n, I u, I g] W fun e w' => e = .returned (I (setsE T n)) ∧ Hid (Bx t m r R l0 l1 (B + 2) K w w' (T.setOwner n u g) T2 M M2 rs ∧ Kp W w') := by
  refine (setOwner_Q s.q hn u g).mono ?_
  rintro e w' ⟨rfl, h1, h2⟩
  exact ⟨rfl, hide (s.tx ((unhide h1).mono (by omega)) (unhide h2) (by omega))⟩
theorem tHold (s : Bx t m r R l0 l1 B K w W T T2 M M2 rs) (hB : B ≤ 860) {n : Int} (hn : (kl n).wf = true) :
    Calls Tryz.prog 63 #[P0 t, I n] W fun e w' => e = .returned (I (T.holdE n)) ∧ Hid (Bx t m r R l0 l1 (B + 1) K w w' (T.hold n) T2 M M2 rs ∧ Kp W w') := by
  refine (hold_Q s.q (by omega) hn _ _ rfl rfl).mono ?_
  rintro e w' ⟨rfl, h1, h2⟩
  exact ⟨rfl, hide (s.tx (unhide h1) (unhide h2) (by omega))⟩
theorem dHold (s : Bx t m r R l0 l1 B K w W T T2 M M2 rs) (hB : B ≤ 860) {n : Int} (hn : (kl n).wf = true) :
    Calls Tryz.prog 71 #[P0 r, I n] W fun e w' => e = .returned (I (T2.holdE n)) ∧ Hid (Bx t m r R l0 l1 (B + 1) K w w' T (T2.hold n) M M2 rs ∧ Kp W w') := by
  refine (Rf.dHold_D s.d s.f.k (by omega) n hn).mono ?_
  rintro e w' ⟨rfl, h1⟩
  exact ⟨rfl, hide (s.rx h1 (s.f.hold n) (s.l.hold n) (by omega))⟩
theorem mBind (s : Bx t m r R l0 l1 B K w W T T2 M M2 rs) (hK : K ≤ 90) (am an nd : Int) :
    Calls Tryz.prog 148 #[P0 m, .agg #[I am, I an], I nd] W fun e w' => e = .returned (.tuple #[I (M.bindN am an), I (Mt.bindE M.es am an)]) ∧ Hid (Bx t m r R l0 l1 B (K + 1) w w' T T2 (M.bind am an nd) M2 rs ∧ Kp W w') := by
  refine (Mt.bind_Q s.a (by omega) am an nd).mono ?_
  rintro e w' ⟨h1, h2, h3⟩
  exact ⟨h1, hide (s.fm h2 h3 (by omega))⟩
theorem rBind (s : Bx t m r R l0 l1 B K w W T T2 M M2 rs) (hK : K ≤ 91) {K0 : Int} (hm : Mt.Wf K0 M2) (hk : K0 + 1 ≤ K) (am an nd : Int) :
    Calls Tryz.prog 149 #[P0 (R + 1), .agg #[I am, I an], I nd] W fun e w' => e = .returned (.tuple #[I (M2.bindN am an), I (Mt.bindE M2.es am an)]) ∧ Hid (∃ rs', Bx t m r R l0 l1 B K w w' T T2 M (M2.bind am an nd) rs' ∧ Kp W w') := by
  have hl : rs.length ≤ 100 := by
    have := s.rt.len
    have := s.mf.pos
    omega
  by_cases hz : Mt.bindE M2.es am an = 0
  · have e1 : M2.bindN am an = M2.md + 1 := by rw [Mt.T.bindN, if_pos hz]
    rw [hz, e1]
    refine (Mt.rbind_yes s.rt s.mf s.b hl am an nd hz).mono ?_
    rintro e w' ⟨rfl, h2, h3⟩
    exact ⟨rfl, hide ⟨_, s.fq h2 (s.rt.bind s.mf nd hz) ((hm.bind am an nd).mono hk) h3 (Int.le_refl _)⟩⟩
  · have e1 : M2.bindN am an = 0 := by rw [Mt.T.bindN, if_neg hz]
    rw [e1]
    refine (Mt.rbind_no s.rt s.mf s.b hl am an nd _ rfl hz).mono ?_
    rintro e w' ⟨rfl, h2⟩
    have ht' : M2.bind am an nd = M2 := Mt.bind_same hz
    rw [ht']
    exact ⟨rfl, hide ⟨rs, s.below h2, Bx.kpb h2⟩⟩
theorem mUnbind (s : Bx t m r R l0 l1 B K w W T T2 M M2 rs) (n : Int) :
    Calls Tryz.prog 99 #[P0 m, I n] W fun e w' => e = .returned (I (Mt.unbE M.es n)) ∧ Hid (Bx t m r R l0 l1 B K w w' T T2 (M.unbind n) M2 rs ∧ Kp W w') := by
  refine (Mt.unbind_Q s.a n).mono ?_
  rintro e w' ⟨h1, h2, h3⟩
  exact ⟨h1, hide (s.fm h2 h3 (Int.le_refl _))⟩
theorem rUnbind (s : Bx t m r R l0 l1 B K w W T T2 M M2 rs) (hK : K ≤ 90) (n : Int) :
    Calls Tryz.prog 100 #[P0 (R + 1), I n] W fun e w' => e = .returned (I (Mt.unbE M2.es n)) ∧ Hid (∃ rs', Bx t m r R l0 l1 B K w w' T T2 M (M2.unbind n) rs' ∧ Kp W w') := by
  have hl : rs.length ≤ 100 := by
    have := s.rt.len
    have := s.mf.pos
    omega
  by_cases hz : Mt.unbE M2.es n = 0
  · rw [hz]
    refine (Mt.runbind_yes s.rt s.mf s.b hl n hz).mono ?_
    rintro e w' ⟨rfl, ⟨rs', h2, h4, h5⟩, h3⟩
    exact ⟨rfl, hide ⟨rs', s.fq h2 h4 (s.mf.unbind n) h3 (Int.le_refl _)⟩⟩
  · refine (Mt.runbind_no s.rt s.mf s.b hl n _ rfl hz).mono ?_
    rintro e w' ⟨rfl, h2⟩
    have ht' : M2.unbind n = M2 := Mt.unb_same hz
    rw [ht']
    exact ⟨rfl, hide ⟨rs, s.below h2, Bx.kpb h2⟩⟩
end
end Go.Proofs.YtlngeaacjbdmhaaGreat.Bt
