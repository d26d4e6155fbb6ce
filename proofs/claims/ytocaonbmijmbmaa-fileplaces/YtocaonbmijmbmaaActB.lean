/-
  The contracts of Open and Close.
-/
import Derived.Test.YtocaonbmijmbmaaActs
namespace Go.Proofs.Ytocaonbmijmbmaa
open Go.RowKit Go.Shelf
attribute [local go_sem ↓] Go.wp_at_zero Go.wp_at_succ

/-- A file is written over in the table's block. -/
theorem put6 {W : World} {b n c : Nat} {fs : List Op} (h : W.heap[b]? = some (.cells (tcells n c fs) 65)) {i : Nat} {q : Op} (hi : fs[i]? = some q) (o : Op) :
    ∃ X1 X2 X3 X4 X5 X6 : World, (W.setCell ⟨b, 2 + i * 6, none⟩ (I o.p) = X1 ∧ X1.setCell ⟨b, 2 + i * 6 + 1, none⟩ (I o.d) = X2 ∧ X2.setCell ⟨b, 2 + i * 6 + 2, none⟩ (I o.m) = X3 ∧ X3.setCell ⟨b, 2 + i * 6 + 3, none⟩ (I o.n) = X4 ∧ X4.setCell ⟨b, 2 + i * 6 + 4, none⟩ (I o.f) = X5 ∧ X5.setCell ⟨b, 2 + i * 6 + 5, none⟩ (I o.s) = X6) ∧
      (W.cell? ⟨b, 2 + i * 6, none⟩ = some (I q.p) ∧ X1.cell? ⟨b, 2 + i * 6 + 1, none⟩ = some (I q.d) ∧ X2.cell? ⟨b, 2 + i * 6 + 2, none⟩ = some (I q.m) ∧ X3.cell? ⟨b, 2 + i * 6 + 3, none⟩ = some (I q.n) ∧ X4.cell? ⟨b, 2 + i * 6 + 4, none⟩ = some (I q.f) ∧ X5.cell? ⟨b, 2 + i * 6 + 5, none⟩ = some (I q.s)) ∧
      (W.frozen? ⟨b, 2 + i * 6, none⟩ = false ∧ X1.frozen? ⟨b, 2 + i * 6 + 1, none⟩ = false ∧ X2.frozen? ⟨b, 2 + i * 6 + 2, none⟩ = false ∧ X3.frozen? ⟨b, 2 + i * 6 + 3, none⟩ = false ∧ X4.frozen? ⟨b, 2 + i * 6 + 4, none⟩ = false ∧ X5.frozen? ⟨b, 2 + i * 6 + 5, none⟩ = false) ∧
      X6.heap[b]? = some (.cells (tcells n c (fs.set i o)) 65) ∧ Fr b W X6 ∧ X6.heap.size = W.heap.size := by
  have h1 := (heap_set h (2 + i * 6) (I o.p)).trans (congrArg (fun x => some (Obj.cells x 65)) (tcells_set (f := 0) (o' := { q with p := o.p }) hi (by omega) rfl))
  have h2 := (heap_set h1 (2 + i * 6 + 1) (I o.d)).trans (congrArg (fun x => some (Obj.cells x 65)) (tcells_set (f := 1) (o' := { q with p := o.p, d := o.d }) (get_set hi _) (by omega) rfl))
  have h3 := (heap_set h2 (2 + i * 6 + 2) (I o.m)).trans (congrArg (fun x => some (Obj.cells x 65)) (tcells_set (f := 2) (o' := { q with p := o.p, d := o.d, m := o.m }) (get_set (get_set hi _) _) (by omega) rfl))
  have h4 := (heap_set h3 (2 + i * 6 + 3) (I o.n)).trans (congrArg (fun x => some (Obj.cells x 65)) (tcells_set (f := 3) (o' := { q with p := o.p, d := o.d, m := o.m, n := o.n }) (get_set (get_set (get_set hi _) _) _) (by omega) rfl))
  have h5 := (heap_set h4 (2 + i * 6 + 4) (I o.f)).trans (congrArg (fun x => some (Obj.cells x 65)) (tcells_set (f := 4) (o' := { q with p := o.p, d := o.d, m := o.m, n := o.n, f := o.f }) (get_set (get_set (get_set (get_set hi _) _) _) _) (by omega) rfl))
  have h6 := (heap_set h5 (2 + i * 6 + 5) (I o.s)).trans (congrArg (fun x => some (Obj.cells x 65)) (tcells_set (f := 5) (o' := o) (get_set (get_set (get_set (get_set (get_set hi _) _) _) _) _) (by omega) rfl))
  refine ⟨_, _, _, _, _, _, ⟨rfl, rfl, rfl, rfl, rfl, rfl⟩, ⟨?_, ?_, ?_, ?_, ?_, ?_⟩, ⟨frozen_of h _, frozen_of h1 _, frozen_of h2 _, frozen_of h3 _, frozen_of h4 _, frozen_of h5 _⟩, ?_, ?_, ?_⟩
  · rw [cell_of h]; exact tcells_at (f := 0) hi (by omega)
  · rw [cell_of h1, tcells_at (f := 1) (get_set hi _) (by omega)]; rfl
  · rw [cell_of h2, tcells_at (f := 2) (get_set (get_set hi _) _) (by omega)]; rfl
  · rw [cell_of h3, tcells_at (f := 3) (get_set (get_set (get_set hi _) _) _) (by omega)]; rfl
  · rw [cell_of h4, tcells_at (f := 4) (get_set (get_set (get_set (get_set hi _) _) _) _) (by omega)]; rfl
  · rw [cell_of h5, tcells_at (f := 5) (get_set (get_set (get_set (get_set (get_set hi _) _) _) _) _) (by omega)]; rfl
  · simp only [List.set_set] at h6; exact h6
  · exact ((((((Fr.refl b W).set (p := ⟨b, 2 + i * 6, none⟩) rfl _).set (p := ⟨b, 2 + i * 6 + 1, none⟩) rfl _).set (p := ⟨b, 2 + i * 6 + 2, none⟩) rfl _).set (p := ⟨b, 2 + i * 6 + 3, none⟩) rfl _).set (p := ⟨b, 2 + i * 6 + 4, none⟩) rfl _).set (p := ⟨b, 2 + i * 6 + 5, none⟩) rfl _
  · simp [World.setCell]
theorem tcells_01 {W : World} {b n c : Nat} {fs : List Op} (h : W.heap[b]? = some (.cells (tcells n c fs) 65)) : W.cell? ⟨b, 0, none⟩ = some (I n) ∧ W.cell? ⟨b, 1, none⟩ = some (I c) ∧ ∀ i, W.frozen? ⟨b, i, none⟩ = false :=
  ⟨by rw [cell_of h]; rfl, by rw [cell_of h]; rfl, frozen_of h⟩

/-- A place in a new block. -/
theorem place2 (w : World) (m k : Int) (t : TypeId) : ∃ V, w.alloc (.cells #[I m, I k] t) = V ∧ V.heap[w.heap.size]? = some (.cells #[I m, I k] t) ∧ Below w.heap.size w V ∧ V.heap.size = w.heap.size + 1 :=
  ⟨_, rfl, putAll (w := w) (.cells #[I m, I k] t) w.heap.size rfl, (Below.refl _ _).alloc (Nat.le_refl _) _, by simp⟩

set_option maxRecDepth 100000 in
set_option maxHeartbeats 1000000 in
theorem openc_any (b n : Nat) (es : List Op) (p m k f : Int) (w : World) (h : Tb w b n es) :
    Calls Try.prog 8 #[.pointer (some ⟨b, 0, none⟩), I p, .agg #[I m, I k], I f] w fun e w' => e = .returned (.tuple #[I (openA es n p), I (roomE es n p)]) ∧ Tb w' b n (openL es n p m k f) ∧ Fr b w w' := by
  obtain ⟨V, hV, hv, hBV, hsV⟩ := place2 w m k 29
  have hT := h.below hBV
  have hbl := h.lt
  have HR := hide (room_any b n es p V hT)
  have HT := hide hT
  have HV := hide hBV
  have Hv := hide hv
  clear h hBV hv
  by_cases he : roomE es n p = 0
  · obtain ⟨-, h8, hn⟩ := roomE_zero he
    obtain ⟨l1, l2, l3⟩ := low_spec p hT.c64
    have hlt : es.length < n := by have := hT.le; omega
    have h64 : n ≤ 64 := hT.n64
    have HL := hide (fun (U : World) (hU : Below V.heap.size V U) => lowest_any b n (low es p) es p U (hT.below hU) l1 l2 (by have := List.countP_le_length (p := isPr p) (l := es); omega))
    rw [show openA es n p = (low es p : Int) by unfold openA; rw [if_pos he], show openL es n p m k f = es ++ [⟨p, low es p, m, k, f, 0⟩] by unfold openL; rw [if_pos he], he]
    rw [he] at HR
    generalize low es p = L at *
    clear l1 l2 l3 h8 hn he hT
    go_enter Try.func8, Try.ntmps8
    go_wp2_with fail
    refine (unhide HR).mono ?_
    rintro e w1 ⟨rfl, hB1⟩
    have H1 := hide hB1
    clear hB1 HR
    go_wp2_with fail
    refine (unhide HL _ (unhide H1)).mono ?_
    rintro e w2 ⟨rfl, hB2⟩
    have hB := (unhide H1).trans (hB2.mono (unhide H1).size)
    have hT2 := (unhide HT).below hB
    obtain ⟨r, hr, hl⟩ := hT2.hb
    obtain ⟨q, r', rfl⟩ : ∃ q r', r = q :: r' := by
      cases r with
      | nil => simp at hl; omega
      | cons q r' => exact ⟨q, r', rfl⟩
    have hq : (es ++ q :: r')[es.length]? = some q := by simp
    have hv2 := (hB.block w.heap.size (by omega)).trans (unhide Hv)
    obtain ⟨g0, g1⟩ := cells2 hv2
    obtain ⟨t0, t1, -⟩ := tcells_01 hr
    obtain ⟨X1, X2, X3, X4, X5, X6, ⟨e1, e2, e3, e4, e5, e6⟩, ⟨d0, d1, d2, d3, d4, d5⟩, ⟨f0, f1, f2, f3, f4, f5⟩, hx, hF, hs⟩ := put6 hr hq ⟨p, L, m, k, f, 0⟩
    obtain ⟨y0, y1, yf⟩ := tcells_01 hx
    have y1d : X6.drew.cell? ⟨b, 1, none⟩ = some (I es.length) := y1
    have yfd : X6.drew.frozen? ⟨b, 1, none⟩ = false := yf 1
    have hT3 : Tb (X6.drew.setCell ⟨b, 1, none⟩ (I ((es.length + 1 : Nat) : Int))) b n (es ++ [⟨p, L, m, k, f, 0⟩]) := by
      refine ⟨⟨r', ?_, by simp at hl ⊢; omega⟩, hT2.n1, hT2.n64, by simp; omega⟩
      have hx' : X6.drew.heap[b]? = some (.cells (tcells n es.length ((es ++ q :: r').set es.length ⟨p, L, m, k, f, 0⟩)) 65) := hx
      rw [heap_set hx', tcells_cnt]
      rw [show (es ++ q :: r').set es.length ⟨p, L, m, k, f, 0⟩ = es ++ [⟨p, L, m, k, f, 0⟩] ++ r' by rw [List.set_append_right _ _ (Nat.le_refl _)]; simp]
      simp
    have hF3 : Fr b w (X6.drew.setCell ⟨b, 1, none⟩ (I ((es.length + 1 : Nat) : Int))) := (((Fr.of_below (unhide HV)).trans ((Fr.of_below hB).trans hF)).drew).set (p := ⟨b, 1, none⟩) rfl _
    have HT3 := hide hT3
    have HF3 := hide hF3
    clear hT3 hF3 hx hF hs hr hl hq hT2 hB hB2 H1 HL HT HV Hv hv2 y0 yf hV
    generalize hc : es.length = c at *
    have j0 : (0 : Int) ≤ (c : Int) := by omega
    have j1 : (c : Int) < 64 := by omega
    clear hc
    go_wp2_with fail
    go_region
    all_goals go_wp2_with fail
    all_goals go_ret2
    all_goals exact ⟨rfl, unhide HT3, unhide HF3⟩
  · rw [show openA es n p = 0 by unfold openA; rw [if_neg he], show openL es n p m k f = es by unfold openL; rw [if_neg he]]
    generalize roomE es n p = er at *
    clear hT
    go_enter Try.func8, Try.ntmps8
    go_wp2_with fail
    refine (unhide HR).mono ?_
    rintro e w1 ⟨rfl, hB1⟩
    have H1 := hide hB1
    clear hB1 HR
    go_wp2_with fail
    go_ret2
    exact ⟨rfl, (unhide HT).below (unhide H1), .of_below ((unhide HV).trans ((unhide H1).mono (unhide HV).size))⟩

theorem set_last (ls : List Op) (k : Nat) (h : ls.length = k + 1) (x : Op) : ls.set k x = ls.take k ++ [x] := by
  induction ls generalizing k with
  | nil => simp at h
  | cons y l ih =>
    cases k with
    | zero => simp at h; subst h; rfl
    | succ k => simp only [List.set_cons_succ, List.take_succ_cons, List.cons_append]; rw [ih k (by simpa using h)]
/-- What Close answers: a place. -/
abbrev Op.pv (o : Op) : Value := .agg #[I o.m, I o.n]
set_option maxRecDepth 100000 in
set_option maxHeartbeats 1000000 in
theorem close_any (b n : Nat) (es : List Op) (p d : Int) (w : World) (h : Tb w b n es) :
    Calls Try.prog 9 #[.pointer (some ⟨b, 0, none⟩), I p, I d] w fun e w' => e = .returned (.tuple #[Op.pv (getV es p d), I (findE es p d)]) ∧ Tb w' b n (closeL es p d) ∧ Fr b w w' := by
  obtain ⟨V, hV, hv, hBV, hsV⟩ := fresh2 w 29
  have hT := h.below hBV
  have HN := hide (find_any b n es p d V hT)
  have hbl := h.lt
  have HT := hide hT
  have HV := hide hBV
  have Hv := hide hv
  clear h hT hBV hv
  by_cases he : findE es p d = 0
  · obtain ⟨-, hi, hA, o, ho, -, -⟩ := findE_zero he
    have hg : getV es p d = o := by unfold getV; rw [if_pos he, ho]; rfl
    have hc1 : es.length - 1 < es.length := by omega
    obtain ⟨o2, ho2⟩ : ∃ o2, es[es.length - 1]? = some o2 := ⟨_, List.getElem?_eq_getElem hc1⟩
    rw [show closeL es p d = (es.set (fdI es p d) o2).take (es.length - 1) by unfold closeL; rw [if_pos he, ho2]; rfl]
    rw [he, hA] at HN
    rw [he, hg]
    have h64 := (unhide HT).c64
    generalize hix : fdI es p d = ix at *
    have HO := hide ho
    have HO2 := hide ho2
    clear hA ho ho2 hix he hg
    have j1 : (ix : Int) < 64 := by omega
    have j0 : (0 : Int) ≤ (ix : Int) := by omega
    go_enter Try.func9, Try.ntmps9
    go_wp2_with fail
    refine (unhide HN).mono ?_
    rintro e w1 ⟨rfl, hB⟩
    have hT1 := (unhide HT).below hB
    have hv1 := (hB.block w.heap.size (by omega)).trans (unhide Hv)
    have hBw : Below w.heap.size w w1 := (unhide HV).trans (hB.mono (by omega))
    have hsz : w.heap.size < w1.heap.size := by have := hB.size; omega
    obtain ⟨U, hU, hu, hBU, hsU⟩ := place2 w1 o.m o.n 29
    obtain ⟨c0, c1, c2, c3, c4, c5⟩ := hT1.file (unhide HO)
    clear HN HT Hv HV hV hsV
    have hT2 := hT1.below hBU
    obtain ⟨r, hr, hl⟩ := hT2.hb
    obtain ⟨t0, t1, tf⟩ := tcells_01 hr
    -- count - 1
    have hr1 := (heap_set hr 1 (I ((es.length - 1 : Nat) : Int))).trans (congrArg (fun x => some (Obj.cells x 65)) (tcells_cnt n es.length (es.length - 1) (es ++ r)))
    obtain ⟨U1, hU1⟩ : ∃ U1, U.setCell ⟨b, 1, none⟩ (I ((es.length - 1 : Nat) : Int)) = U1 := ⟨_, rfl⟩
    rw [hU1] at hr1
    have hF1 : Fr b U U1 := by rw [← hU1]; exact (Fr.refl b U).set (p := ⟨b, 1, none⟩) rfl _
    have hi1 : (es ++ r)[ix]? = some o := by rw [List.getElem?_append_left hi]; exact unhide HO
    have hi2 : (es ++ r)[es.length - 1]? = some o2 := by rw [List.getElem?_append_left hc1]; exact unhide HO2
    obtain ⟨z0, z1, -⟩ := tcells_01 hr1
    have a0 : U1.cell? ⟨b, 2 + (es.length - 1) * 6, none⟩ = some (I o2.p) := by rw [cell_of hr1]; exact tcells_at (f := 0) hi2 (by omega)
    have a1 : U1.cell? ⟨b, 2 + (es.length - 1) * 6 + 1, none⟩ = some (I o2.d) := by rw [cell_of hr1]; exact tcells_at (f := 1) hi2 (by omega)
    have a2 : U1.cell? ⟨b, 2 + (es.length - 1) * 6 + 2, none⟩ = some (I o2.m) := by rw [cell_of hr1]; exact tcells_at (f := 2) hi2 (by omega)
    have a3 : U1.cell? ⟨b, 2 + (es.length - 1) * 6 + 3, none⟩ = some (I o2.n) := by rw [cell_of hr1]; exact tcells_at (f := 3) hi2 (by omega)
    have a4 : U1.cell? ⟨b, 2 + (es.length - 1) * 6 + 4, none⟩ = some (I o2.f) := by rw [cell_of hr1]; exact tcells_at (f := 4) hi2 (by omega)
    have a5 : U1.cell? ⟨b, 2 + (es.length - 1) * 6 + 5, none⟩ = some (I o2.s) := by rw [cell_of hr1]; exact tcells_at (f := 5) hi2 (by omega)
    obtain ⟨X1, X2, X3, X4, X5, X6, ⟨e1, e2, e3, e4, e5, e6⟩, ⟨d0, d1, d2, d3, d4, d5⟩, ⟨f0, f1, f2, f3, f4, f5⟩, hx, hFx, hsx⟩ := put6 hr1 hi1 o2
    have hxd : X6.drew.heap[b]? = some (.cells (tcells n (es.length - 1) ((es ++ r).set ix o2)) 65) := hx
    have hi3 : ∃ q, ((es ++ r).set ix o2)[es.length - 1]? = some q := ⟨_, List.getElem?_eq_getElem (by simp; omega)⟩
    obtain ⟨q, hq⟩ := hi3
    obtain ⟨y0, y1, -⟩ := tcells_01 hxd
    obtain ⟨Y1, Y2, Y3, Y4, Y5, Y6, ⟨e1', e2', e3', e4', e5', e6'⟩, ⟨d0', d1', d2', d3', d4', d5'⟩, ⟨f0', f1', f2', f3', f4', f5'⟩, hy, hFy, hsy⟩ := put6 hxd hq ⟨0, 0, 0, 0, 0, 0⟩
    have hFa : Fr b U Y6.drew := (hF1.trans (hFx.drew.trans hFy)).drew
    have hb1 : w1.heap.size ≠ b := by have := hT1.lt; omega
    have hb0 : w.heap.size ≠ b := by omega
    have hu3 : Y6.drew.heap[w1.heap.size]? = some (.cells #[I o.m, I o.n] 29) := (hFa.block _ (by omega) hb1).trans hu
    have hv3 : Y6.drew.heap[w.heap.size]? = some (.cells #[I 0, I 0] 29) := (hFa.block _ (by omega) hb0).trans ((hBU.block _ hsz).trans hv1)
    obtain ⟨g0, g1⟩ := cells2 hu3
    obtain ⟨R1, R2, ⟨s1, s2⟩, ⟨k0, k1⟩, ⟨m0, m1⟩, hR, hFR, hsR⟩ := store2 hv3 (I o.m) (I o.n)
    obtain ⟨x0, x1⟩ := cells2 hR
    have hTe : Tb R2 b n ((es.set ix o2).take (es.length - 1)) := by
      refine ⟨⟨o0 :: r, ?_, by simp; omega⟩, hT2.n1, hT2.n64, by have := hT2.le; simp; omega⟩
      rw [hFR.block b (by rw [show Y6.drew.heap.size = Y6.heap.size from rfl, hsy, show X6.drew.heap.size = X6.heap.size from rfl, hsx, ← hU1]; simp [World.setCell]; have := hT2.lt; omega) (Ne.symm hb0)]
      show Y6.heap[b]? = _
      rw [hy]
      have e1 : (es ++ r).set ix o2 = es.set ix o2 ++ r := List.set_append_left _ _ hi
      have e2 : (es.set ix o2 ++ r).set (es.length - 1) ⟨0, 0, 0, 0, 0, 0⟩ = (es.set ix o2).take (es.length - 1) ++ o0 :: r := by
        rw [List.set_append_left _ _ (by simp; omega)]
        have hl2 : (es.set ix o2).length = (es.length - 1) + 1 := by simp; omega
        generalize es.set ix o2 = ls at hl2 ⊢
        rw [set_last ls (es.length - 1) hl2]
        simp [o0]
      rw [e1, e2]
      simp
    have hFe : Fr b w R2 := by
      have h1 : Fr b w U := (Fr.of_below hBw).trans (Fr.of_below hBU)
      have h2 : Fr b w Y6.drew := h1.trans hFa
      rw [← s2, ← s1]
      exact (h2.setNew (p := ⟨w.heap.size, 0, none⟩) (Nat.le_refl _) _).setNew (p := ⟨w.heap.size, 1, none⟩) (Nat.le_refl _) _
    have HTe := hide hTe
    have HFe := hide hFe
    clear hTe hFe hFa hFx hFy hF1 hx hy hxd hr1 hr hT1 hT2 hu3 hv3 hv1 hu hB hBw hBU hsU hsR hsx hsy hR hFR hq hi1 hi2 HO HO2 y0 z0 t0 hb1 hb0 hl
    have tf1 := tf 1
    clear tf
    generalize hc : es.length = c at *
    have HC := hide hc
    clear hc
    generalize hk : c - 1 = kk at *
    have w1k : (c : Int) - 1 = (kk : Int) := by omega
    have i0 : (0 : Int) ≤ (kk : Int) := by omega
    have i1 : (kk : Int) < 64 := by omega
    have HK := hide hk
    clear hk hc1
    go_wp2_with fail
    go_region
    all_goals go_wp2_with fail
    all_goals go_region
    all_goals go_wp2_with fail
    all_goals refine bodyPost_ret (v := .tuple #[Op.pv o, I 0]) (by simp [results, Try.results9, go_sem, x0, x1]) rfl ?_
    all_goals exact ⟨rfl, by rw [unhide HC, unhide HK]; exact unhide HTe, unhide HFe⟩
  · have hg : getV es p d = o0 := by unfold getV; rw [if_neg he]
    rw [hg, show closeL es p d = es by unfold closeL; rw [if_neg he]]
    generalize findE es p d = er at *
    generalize findA es p d = an at *
    go_enter Try.func9, Try.ntmps9
    go_wp2_with fail
    refine (unhide HN).mono ?_
    rintro e w1 ⟨rfl, hB⟩
    have hv1 := (hB.block w.heap.size (by omega)).trans (unhide Hv)
    obtain ⟨X1, X2, ⟨e1, e2⟩, ⟨d0, d1⟩, ⟨f0, f1⟩, hx, hF, hs⟩ := store2 hv1 (I 0) (I 0)
    obtain ⟨x0, x1⟩ := cells2 hx
    have hT1 := ((unhide HT).below hB).fr hF (by omega)
    have HE : Hid (Below w.heap.size w X2) := ((unhide HV).trans (hB.mono (by omega))).trans (hF.below (Nat.le_refl _) (by have := hB.size; omega))
    have HT1 := hide hT1
    clear HN hv1 hx hF hs hB HT Hv HV hV hsV hT1
    go_wp2_with fail
    refine bodyPost_ret (v := .tuple #[Op.pv o0, I er]) (by simp [results, Try.results9, go_sem, x0, x1, o0]) rfl ?_
    exact ⟨rfl, unhide HT1, .of_below (unhide HE)⟩
end Go.Proofs.Ytocaonbmijmbmaa
