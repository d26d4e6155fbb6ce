/-
  The contracts of a walker's small calls: missing, end.
-/
import Derived.Test.YthmdipfdloennaaLp20
namespace Go.Proofs.Ythmdipfdloennaa.Wl
open Go.RowKit
attribute [local go_sem ↓] Go.wp_at_zero Go.wp_at_succ

section
variable {lo N mb : Nat} {W W' : World} {t m b : Nat} {E : En} {am an : Int} {s : Nat}
def zfd : Obj := .cells #[I 0, I 0, .string ⟨#[]⟩, I 0, I 0, .bool false, .bool false] 36
theorem two_new (W : World) (o1 o2 : Obj) : ∃ V, (W.alloc o1).alloc o2 = V ∧ V.heap[W.heap.size]? = some o1 ∧ V.heap[W.heap.size + 1]? = some o2 ∧ Below W.heap.size W V ∧ V.heap.size = W.heap.size + 2 := by
  refine ⟨_, rfl, ?_, ?_, ((Below.refl _ W).alloc (Nat.le_refl _) _).alloc (by simp) _, by simp⟩
  · rw [Below.heap_alloc _ _ _ (by simp)]; exact heap_alloc_new W o1
  · have := heap_alloc_new (W.alloc o1) o2
    simpa using this
theorem set7d {X : World} {b : Nat} {t : TypeId} {a0 a1 a2 a3 a4 a5 a6 : Value} (h : X.heap[b]? = some (.cells #[a0, a1, a2, a3, a4, a5, a6] t)) (v0 v1 v2 v3 v4 v5 v6 : Value) :
    ∃ Y, (((((((X.setCell ⟨b, 0, none⟩ v0).setCell ⟨b, 1, none⟩ v1).setCell ⟨b, 2, none⟩ v2).setCell ⟨b, 3, none⟩ v3).setCell ⟨b, 4, none⟩ v4).setCell ⟨b, 5, none⟩ v5).setCell ⟨b, 6, none⟩ v6).drew = Y ∧ Y.heap[b]? = some (.cells #[v0, v1, v2, v3, v4, v5, v6] t) ∧ ∀ B u, Below B u X → B ≤ b → Below B u Y := by
  obtain ⟨Y, hY, h1, h2⟩ := set7 h v0 v1 v2 v3 v4 v5 v6
  exact ⟨Y.drew, by rw [hY], h1, fun B u hu hb => below_drew (h2 B u hu hb)⟩
set_option maxRecDepth 100000 in
set_option maxHeartbeats 1000000 in
theorem missing_any (hw : Wn W b t m E am an s) (p : Bytes) (rest : List Bytes) (r sl : Bool) (a : Option Addr) (cap : Nat) (hr : rest.length ≤ 100000) :
    Calls Try.prog 52 #[P0 b, .string (bs p), .agg #[.bool r, .bool sl, .slice a rest.length cap]] W fun e w' => e = .returned (.tuple #[(missF p rest sl am an).v, I (missE rest)]) ∧ Below W.heap.size W w' := by
  obtain ⟨V, hV, g1, g2, hB, hs⟩ := two_new W (.cells #[.bool r, .bool sl, .slice a rest.length cap] 85) zfd
  unfold zfd at hV g2
  have hbl := hw.lt
  obtain ⟨-, -, -, -, -, -, v6, v7, -, -⟩ := (hw.below hB).cells
  have p1 : V.cell? ⟨W.heap.size, 1, none⟩ = some (.bool sl) := by rw [cell_of g1]; rfl
  have p2 : V.cell? ⟨W.heap.size, 2, none⟩ = some (.slice a rest.length cap) := by rw [cell_of g1]; rfl
  obtain ⟨r0, r1, r2, r3, r4, r5, r6, rf⟩ := cells7 g2
  have n1 : b ≠ W.heap.size + 1 := by omega
  have n2 : W.heap.size ≠ W.heap.size + 1 := by omega
  have n3 : W.heap.size + 1 ≠ b := by omega
  cases rest with
  | nil =>
    obtain ⟨Y, hY, hYb, hYB⟩ := set7d g2 (I am) (I an) (.string (bs p)) (I 0) (I 0) (.bool false) (.bool sl)
    obtain ⟨z0, z1, z2, z3, z4, z5, z6, -⟩ := cells7 hYb
    have HY := hide (hYB _ _ hB (by omega))
    have HYe := hide hY
    clear hYb hYB hY hw hB g1 g2 hs
    show Calls _ _ _ _ fun e w' => e = .returned (.tuple #[.agg #[I am, I an, .string (bs p), I 0, I 0, .bool false, .bool sl], I 0]) ∧ _
    simp only [List.length_nil] at p2 hV ⊢
    go_enter Try.func52, Try.ntmps52
    go_wp2_with fail
    go_region_held3 (fun w' => w'.cell? ⟨b, 6, none⟩ = some (I am) ∧ w'.cell? ⟨b, 7, none⟩ = some (I an) ∧ w'.cell? ⟨W.heap.size, 1, none⟩ = some (.bool sl)) (go_keep) (fail)
    rw [unhide HYe]
    go_wp2_with fail
    refine bodyPost_ret (v := .tuple #[.agg #[I am, I an, .string (bs p), I 0, I 0, .bool false, .bool sl], I 0]) (by simp [results, Try.results52, go_sem, z0, z1, z2, z3, z4, z5, z6]) rfl ?_
    exact ⟨rfl, unhide HY⟩
  | cons q rest =>
    obtain ⟨Y, hY, hYb, hYB⟩ := set7 g2 (I 0) (I 0) (.string ⟨#[]⟩) (I 0) (I 0) (.bool false) (.bool false)
    obtain ⟨z0, z1, z2, z3, z4, z5, z6, -⟩ := cells7 hYb
    have HY := hide (hYB _ _ hB (by omega))
    have HYe := hide hY
    have hl : (0 : Int) < ((q :: rest).length : Int) := by simp
    clear hYb hYB hY hw hB g1 g2 hs
    show Calls _ _ _ _ fun e w' => e = .returned (.tuple #[.agg #[I 0, I 0, .string (bs []), I 0, I 0, .bool false, .bool false], I 32]) ∧ _
    generalize (q :: rest).length = n at *
    go_enter Try.func52, Try.ntmps52
    go_wp2_with fail
    rw [unhide HYe]
    refine bodyPost_ret (v := .tuple #[.agg #[I 0, I 0, .string (bs []), I 0, I 0, .bool false, .bool false], I 32]) (by simp [results, Try.results52, go_sem, z0, z1, z2, z3, z4, z5, z6]) rfl ?_
    exact ⟨rfl, unhide HY⟩
set_option maxRecDepth 100000 in
set_option maxHeartbeats 1000000 in
theorem end_any (D : Wd lo N mb W t m E) (hw : Wn W b t m E am an s) (hn : (kl an).wf = true) (dm dn : Int) (last : Bytes) (sl : Bool) :
    Calls Try.prog 56 #[P0 b, .agg #[I dm, I dn], .string (bs last), .bool sl] W fun e w' => e = .returned (.tuple #[(E.endF dm dn last am an sl).v, I (E.endE an sl)]) ∧ Below W.heap.size W w' := by
  obtain ⟨V, hV, g1, g2, hB, hs⟩ := two_new W (.cells #[I dm, I dn] 34) zfd
  unfold zfd at hV g2
  have hbl := hw.lt
  have hwV := hw.below hB
  obtain ⟨-, -, -, -, -, -, v6, v7, -, -⟩ := hwV.cells
  have p0 : V.cell? ⟨W.heap.size, 0, none⟩ = some (I dm) := by rw [cell_of g1]; rfl
  have p1 : V.cell? ⟨W.heap.size, 1, none⟩ = some (I dn) := by rw [cell_of g1]; rfl
  have pf := frozen_of g1
  obtain ⟨r0, r1, r2, r3, r4, r5, r6, rf⟩ := cells7 g2
  have n1 : b ≠ W.heap.size + 1 := by omega
  have n2 : W.heap.size ≠ W.heap.size + 1 := by omega
  have n3 : W.heap.size + 1 ≠ b := by omega
  have n4 : W.heap.size + 1 ≠ W.heap.size := by omega
  have n5 : b ≠ W.heap.size := by omega
  have n6 : W.heap.size ≠ b := by omega
  obtain ⟨K, hK⟩ : ∃ K, K = E.T.kindOf an := ⟨_, rfl⟩
  have HKd := hide (kind_any (D.below hB) hwV am an hn)
  rw [← hK] at HKd
  obtain ⟨bad, hbad⟩ : ∃ bad, bad = decide (sl = true ∧ E.T.kindOf an ≠ 1) := ⟨_, rfl⟩
  -- what is answered
  cases bad with
  | true =>
    have hb := of_decide_eq_true hbad.symm
    obtain ⟨rfl, hk1⟩ := hb
    have e1 : (E.endF dm dn last am an true) = Fd.none := by rw [En.endF, if_pos ⟨rfl, hk1⟩]
    have e2 : E.endE an true = 37 := by rw [En.endE, if_pos ⟨rfl, hk1⟩]
    rw [e1, e2]
    rw [← hK] at hk1
    have HH := hide (⟨g2, hB⟩ : _ ∧ _)
    clear e1 e2 hbad D hw hwV g1 g2 hB hK
    show Calls _ _ _ _ fun e w' => e = .returned (.tuple #[.agg #[I 0, I 0, .string (bs []), I 0, I 0, .bool false, .bool false], I 37]) ∧ _
    go_enter Try.func56, Try.ntmps56
    go_wp2_with fail
    refine (unhide HKd).mono ?_
    rintro e w3 ⟨rfl, hB3⟩
    obtain ⟨g2, hB⟩ := unhide HH
    have g3 := (hB3.block _ (by omega)).trans g2
    obtain ⟨Y, hY, hYb, hYB⟩ := set7 g3 (I 0) (I 0) (.string ⟨#[]⟩) (I 0) (I 0) (.bool false) (.bool false)
    obtain ⟨z0, z1, z2, z3, z4, z5, z6, -⟩ := cells7 hYb
    obtain ⟨s0, s1, s2, s3, s4, s5, s6, sf⟩ := cells7 g3
    have HY := hide (hYB _ _ (hB.trans (hB3.mono (by omega))) (by omega))
    have HYe := hide hY
    clear hYb hYB hY hB hB3 g2 g3 HKd r0 r1 r2 r3 r4 r5 r6 rf p0 p1 pf v6 v7
    go_wp2_with fail
    rw [unhide HYe]
    refine bodyPost_ret (v := .tuple #[.agg #[I 0, I 0, .string (bs []), I 0, I 0, .bool false, .bool false], I 37]) (by simp [results, Try.results56, go_sem, z0, z1, z2, z3, z4, z5, z6]) rfl ?_
    exact ⟨rfl, unhide HY⟩
  | false =>
    have hb := of_decide_eq_false hbad.symm
    have e2 : E.endE an sl = 0 := by rw [En.endE, if_neg hb]
    have e1 : E.endF dm dn last am an sl = if last = [] then ⟨am, an, last, am, an, true, sl⟩ else ⟨dm, dn, last, am, an, true, sl⟩ := by rw [En.endF, if_neg hb]
    rw [e2]
    have hk1 : sl = true → K = 1 := fun h => by
      rw [hK]
      exact Decidable.not_not.1 fun h2 => hb ⟨h, h2⟩
    clear e2 hbad hb
    cases sl with
    | true =>
      cases last with
      | nil =>
        have ef : E.endF dm dn [] am an true = ⟨am, an, [], am, an, true, true⟩ := by rw [e1]; simp
        rw [ef]
        clear e1 ef
        have hk2 : K = 1 := hk1 rfl
        clear hk1
        have HH := hide (⟨g1, g2, hB, hwV⟩ : _ ∧ _ ∧ _ ∧ _)
        clear D hw hwV g1 g2 hB hK
        show Calls _ _ _ _ fun e w' => e = .returned (.tuple #[.agg #[I am, I an, .string (bs []), I am, I an, .bool true, .bool true], I 0]) ∧ _
        rw [hk2] at HKd
        clear hk2
        go_enter Try.func56, Try.ntmps56
        go_wp2_with fail
        refine (unhide HKd).mono ?_
        rintro e w3 ⟨rfl, hB3⟩
        obtain ⟨g1, g2, hB, hwV⟩ := unhide HH
        have hw3n := hwV.below hB3
        obtain ⟨-, -, -, -, -, -, u6, u7, -, -⟩ := hw3n.cells
        have k1 := (hB3.block _ (by omega)).trans g1
        have k2 := (hB3.block _ (by omega)).trans g2
        have hBW := hB.trans (hB3.mono (by omega))
        obtain ⟨X1, X2, ⟨x1, x2⟩, ⟨y0, y1⟩, ⟨f0, f1⟩, hXb, hfr, hXs⟩ := Mt.store2 k1 (I am) (I an)
        have j0 : X2.cell? ⟨W.heap.size, 0, none⟩ = some (I am) := by rw [cell_of hXb]; rfl
        have j1 : X2.cell? ⟨W.heap.size, 1, none⟩ = some (I an) := by rw [cell_of hXb]; rfl
        have hs3 : W.heap.size + 2 ≤ w3.heap.size := by have := hB3.size; omega
        have t6 : X2.cell? ⟨b, 6, none⟩ = some (I am) := cell_kp u6 (hfr.blk b (by omega) (by simp; omega))
        have t7 : X2.cell? ⟨b, 7, none⟩ = some (I an) := cell_kp u7 (hfr.blk b (by omega) (by simp; omega))
        have k3 := (hfr.blk (W.heap.size + 1) (by omega) (by simp)).trans k2
        have hBX : Below W.heap.size W X2 := hBW.trans (hfr.base (by omega) (by simp))
        obtain ⟨Y, hY, hYb, hYB⟩ := set7d k3 (I am) (I an) (.string (bs [])) (I am) (I an) (.bool true) (.bool true)
        obtain ⟨z0, z1, z2, z3, z4, z5, z6, -⟩ := cells7 hYb
        obtain ⟨s0, s1, s2, s3, s4, s5, s6, sf⟩ := cells7 k3
        have HY := hide (hYB _ _ hBX (by omega))
        have HYe := hide hY
        clear hfr hXs hXb
        clear hYb hYB hY hB hB3 g1 g2 k1 k2 k3 hw3n hwV hBW hBX HH HKd hs
        clear r0 r1 r2 r3 r4 r5 r6 rf p0 p1 pf v6 v7
        go_wp2_with fail
        go_region_held3 (fun w' => w'.cell? ⟨b, 6, none⟩ = some (I am) ∧ w'.cell? ⟨b, 7, none⟩ = some (I an) ∧ w'.cell? ⟨W.heap.size, 0, none⟩ = some (I am) ∧ w'.cell? ⟨W.heap.size, 1, none⟩ = some (I an)) (go_keep) (fail)
        rw [unhide HYe]
        go_wp2_with fail
        refine bodyPost_ret (v := .tuple #[.agg #[I am, I an, .string (bs []), I am, I an, .bool true, .bool true], I 0]) (by simp [results, Try.results56, go_sem, z0, z1, z2, z3, z4, z5, z6]) rfl ?_
        exact ⟨rfl, unhide HY⟩
      | cons c l =>
        have ef : E.endF dm dn (c :: l) am an true = ⟨dm, dn, (c :: l), am, an, true, true⟩ := by rw [e1]; simp
        rw [ef]
        clear e1 ef
        have hk2 : K = 1 := hk1 rfl
        clear hk1
        have HH := hide (⟨g1, g2, hB, hwV⟩ : _ ∧ _ ∧ _ ∧ _)
        clear D hw hwV g1 g2 hB hK
        show Calls _ _ _ _ fun e w' => e = .returned (.tuple #[.agg #[I dm, I dn, .string (bs (c :: l)), I am, I an, .bool true, .bool true], I 0]) ∧ _
        rw [hk2] at HKd
        clear hk2
        go_enter Try.func56, Try.ntmps56
        go_wp2_with fail
        refine (unhide HKd).mono ?_
        rintro e w3 ⟨rfl, hB3⟩
        obtain ⟨g1, g2, hB, hwV⟩ := unhide HH
        have hw3n := hwV.below hB3
        obtain ⟨-, -, -, -, -, -, u6, u7, -, -⟩ := hw3n.cells
        have k1 := (hB3.block _ (by omega)).trans g1
        have k2 := (hB3.block _ (by omega)).trans g2
        have hBW := hB.trans (hB3.mono (by omega))
        obtain ⟨X2, hX2⟩ : ∃ X2, w3 = X2 := ⟨_, rfl⟩
        have j0 : X2.cell? ⟨W.heap.size, 0, none⟩ = some (I dm) := by rw [← hX2, cell_of k1]; rfl
        have j1 : X2.cell? ⟨W.heap.size, 1, none⟩ = some (I dn) := by rw [← hX2, cell_of k1]; rfl
        have t6 : X2.cell? ⟨b, 6, none⟩ = some (I am) := by rw [← hX2]; exact u6
        have t7 : X2.cell? ⟨b, 7, none⟩ = some (I an) := by rw [← hX2]; exact u7
        have k3 := k2
        rw [hX2] at k3
        have hBX : Below W.heap.size W X2 := by rw [← hX2]; exact hBW
        obtain ⟨Y, hY, hYb, hYB⟩ := set7d k3 (I dm) (I dn) (.string (bs (c :: l))) (I am) (I an) (.bool true) (.bool true)
        obtain ⟨z0, z1, z2, z3, z4, z5, z6, -⟩ := cells7 hYb
        obtain ⟨s0, s1, s2, s3, s4, s5, s6, sf⟩ := cells7 k3
        have HY := hide (hYB _ _ hBX (by omega))
        have HYe := hide hY
        clear hYb hYB hY hB hB3 g1 g2 k1 k2 k3 hw3n hwV hBW hBX HH HKd hs
        clear r0 r1 r2 r3 r4 r5 r6 rf p0 p1 pf v6 v7
        subst hX2
        go_wp2_with fail
        go_region_held3 (fun w' => w'.cell? ⟨b, 6, none⟩ = some (I am) ∧ w'.cell? ⟨b, 7, none⟩ = some (I an) ∧ w'.cell? ⟨W.heap.size, 0, none⟩ = some (I dm) ∧ w'.cell? ⟨W.heap.size, 1, none⟩ = some (I dn)) (go_keep) (fail)
        rw [unhide HYe]
        go_wp2_with fail
        refine bodyPost_ret (v := .tuple #[.agg #[I dm, I dn, .string (bs (c :: l)), I am, I an, .bool true, .bool true], I 0]) (by simp [results, Try.results56, go_sem, z0, z1, z2, z3, z4, z5, z6]) rfl ?_
        exact ⟨rfl, unhide HY⟩
    | false =>
      cases last with
      | nil =>
        have ef : E.endF dm dn [] am an false = ⟨am, an, [], am, an, true, false⟩ := by rw [e1]; simp
        rw [ef]
        clear e1 ef
        clear hk1
        have HH := hide (⟨g1, g2, hB, hwV⟩ : _ ∧ _ ∧ _ ∧ _)
        clear D hw hwV g1 g2 hB hK
        show Calls _ _ _ _ fun e w' => e = .returned (.tuple #[.agg #[I am, I an, .string (bs []), I am, I an, .bool true, .bool false], I 0]) ∧ _
        obtain ⟨w3, hw3⟩ : ∃ w3, V = w3 := ⟨_, rfl⟩
        have hB3 : Below V.heap.size V w3 := by rw [hw3]; exact Below.refl _ _
        obtain ⟨g1, g2, hB, hwV⟩ := unhide HH
        have hw3n := hwV.below hB3
        obtain ⟨-, -, -, -, -, -, u6, u7, -, -⟩ := hw3n.cells
        have k1 := (hB3.block _ (by omega)).trans g1
        have k2 := (hB3.block _ (by omega)).trans g2
        have hBW := hB.trans (hB3.mono (by omega))
        obtain ⟨X1, X2, ⟨x1, x2⟩, ⟨y0, y1⟩, ⟨f0, f1⟩, hXb, hfr, hXs⟩ := Mt.store2 k1 (I am) (I an)
        have j0 : X2.cell? ⟨W.heap.size, 0, none⟩ = some (I am) := by rw [cell_of hXb]; rfl
        have j1 : X2.cell? ⟨W.heap.size, 1, none⟩ = some (I an) := by rw [cell_of hXb]; rfl
        have hs3 : W.heap.size + 2 ≤ w3.heap.size := by have := hB3.size; omega
        have t6 : X2.cell? ⟨b, 6, none⟩ = some (I am) := cell_kp u6 (hfr.blk b (by omega) (by simp; omega))
        have t7 : X2.cell? ⟨b, 7, none⟩ = some (I an) := cell_kp u7 (hfr.blk b (by omega) (by simp; omega))
        have k3 := (hfr.blk (W.heap.size + 1) (by omega) (by simp)).trans k2
        have hBX : Below W.heap.size W X2 := hBW.trans (hfr.base (by omega) (by simp))
        obtain ⟨Y, hY, hYb, hYB⟩ := set7d k3 (I am) (I an) (.string (bs [])) (I am) (I an) (.bool true) (.bool false)
        obtain ⟨z0, z1, z2, z3, z4, z5, z6, -⟩ := cells7 hYb
        obtain ⟨s0, s1, s2, s3, s4, s5, s6, sf⟩ := cells7 k3
        have HY := hide (hYB _ _ hBX (by omega))
        have HYe := hide hY
        clear hfr hXs hXb
        clear hYb hYB hY hB hB3 g1 g2 k1 k2 k3 hw3n hwV hBW hBX HH HKd hs
        clear r0 r1 r2 r3 r4 r5 r6 rf p0 p1 pf v6 v7
        subst hw3
        go_enter Try.func56, Try.ntmps56
        go_wp2_with fail
        go_region_held3 (fun w' => w'.cell? ⟨b, 6, none⟩ = some (I am) ∧ w'.cell? ⟨b, 7, none⟩ = some (I an) ∧ w'.cell? ⟨W.heap.size, 0, none⟩ = some (I am) ∧ w'.cell? ⟨W.heap.size, 1, none⟩ = some (I an)) (go_keep) (fail)
        rw [unhide HYe]
        go_wp2_with fail
        refine bodyPost_ret (v := .tuple #[.agg #[I am, I an, .string (bs []), I am, I an, .bool true, .bool false], I 0]) (by simp [results, Try.results56, go_sem, z0, z1, z2, z3, z4, z5, z6]) rfl ?_
        exact ⟨rfl, unhide HY⟩
      | cons c l =>
        have ef : E.endF dm dn (c :: l) am an false = ⟨dm, dn, (c :: l), am, an, true, false⟩ := by rw [e1]; simp
        rw [ef]
        clear e1 ef
        clear hk1
        have HH := hide (⟨g1, g2, hB, hwV⟩ : _ ∧ _ ∧ _ ∧ _)
        clear D hw hwV g1 g2 hB hK
        show Calls _ _ _ _ fun e w' => e = .returned (.tuple #[.agg #[I dm, I dn, .string (bs (c :: l)), I am, I an, .bool true, .bool false], I 0]) ∧ _
        obtain ⟨w3, hw3⟩ : ∃ w3, V = w3 := ⟨_, rfl⟩
        have hB3 : Below V.heap.size V w3 := by rw [hw3]; exact Below.refl _ _
        obtain ⟨g1, g2, hB, hwV⟩ := unhide HH
        have hw3n := hwV.below hB3
        obtain ⟨-, -, -, -, -, -, u6, u7, -, -⟩ := hw3n.cells
        have k1 := (hB3.block _ (by omega)).trans g1
        have k2 := (hB3.block _ (by omega)).trans g2
        have hBW := hB.trans (hB3.mono (by omega))
        obtain ⟨X2, hX2⟩ : ∃ X2, w3 = X2 := ⟨_, rfl⟩
        have j0 : X2.cell? ⟨W.heap.size, 0, none⟩ = some (I dm) := by rw [← hX2, cell_of k1]; rfl
        have j1 : X2.cell? ⟨W.heap.size, 1, none⟩ = some (I dn) := by rw [← hX2, cell_of k1]; rfl
        have t6 : X2.cell? ⟨b, 6, none⟩ = some (I am) := by rw [← hX2]; exact u6
        have t7 : X2.cell? ⟨b, 7, none⟩ = some (I an) := by rw [← hX2]; exact u7
        have k3 := k2
        rw [hX2] at k3
        have hBX : Below W.heap.size W X2 := by rw [← hX2]; exact hBW
        obtain ⟨Y, hY, hYb, hYB⟩ := set7d k3 (I dm) (I dn) (.string (bs (c :: l))) (I am) (I an) (.bool true) (.bool false)
        obtain ⟨z0, z1, z2, z3, z4, z5, z6, -⟩ := cells7 hYb
        obtain ⟨s0, s1, s2, s3, s4, s5, s6, sf⟩ := cells7 k3
        have HY := hide (hYB _ _ hBX (by omega))
        have HYe := hide hY
        clear hYb hYB hY hB hB3 g1 g2 k1 k2 k3 hw3n hwV hBW hBX HH HKd hs
        clear r0 r1 r2 r3 r4 r5 r6 rf p0 p1 pf v6 v7
        subst hw3
        subst hX2
        go_enter Try.func56, Try.ntmps56
        go_wp2_with fail
        go_region_held3 (fun w' => w'.cell? ⟨b, 6, none⟩ = some (I am) ∧ w'.cell? ⟨b, 7, none⟩ = some (I an) ∧ w'.cell? ⟨W.heap.size, 0, none⟩ = some (I dm) ∧ w'.cell? ⟨W.heap.size, 1, none⟩ = some (I dn)) (go_keep) (fail)
        rw [unhide HYe]
        go_wp2_with fail
        refine bodyPost_ret (v := .tuple #[.agg #[I dm, I dn, .string (bs (c :: l)), I am, I an, .bool true, .bool false], I 0]) (by simp [results, Try.results56, go_sem, z0, z1, z2, z3, z4, z5, z6]) rfl ?_
        exact ⟨rfl, unhide HY⟩
end
end Go.Proofs.Ythmdipfdloennaa.Wl
