/-
  The contracts of New, Get, Seek, Open and Close.
-/
import Derived.Test.YtocaonbmijmbmaaPure
import Derived.Deep.WholeRow
namespace Go.Proofs.Ytocaonbmijmbmaa
open Go.RowKit Go.Shelf
attribute [local go_sem ↓] Go.wp_at_zero Go.wp_at_succ

theorem zero65 (w : World) : (zeroValue 65).run Try.prog w = .ok (.agg (tcells 0 0 (List.replicate 64 o0))) w :=
  (zero_of_info (P := Try.prog) (t := 65) (v := .agg (tcells 0 0 (List.replicate 64 o0))) (n := 386) (by kernel_rfl)).1 w

set_option maxHeartbeats 400000 in
theorem new_bad (m : Int) (hm : m < 1 ∨ 64 < m) (w : World) :
    Calls Try.prog 7 #[I m] w fun e w' => e = .returned (.tuple #[.pointer none, I 1]) ∧ w' = w := by
  by_cases h1 : m < 1
  · clear hm
    go_enter Try.func7, Try.ntmps7
    go_wp2_with fail
    go_ret2
    exact ⟨rfl, rfl⟩
  · have h2 : 64 < m := by omega
    clear hm
    go_enter Try.func7, Try.ntmps7
    go_wp2_with fail
    go_ret2
    exact ⟨rfl, rfl⟩
set_option maxRecDepth 100000 in
set_option maxHeartbeats 400000 in
theorem new_good (n : Nat) (h1 : 1 ≤ n) (h2 : n ≤ 64) (w : World) :
    Calls Try.prog 7 #[I n] w fun e w' => e = .returned (.tuple #[.pointer (some ⟨w.heap.size, 0, none⟩), I 0]) ∧ Tb w' w.heap.size n [] ∧ Below w.heap.size w w' := by
  have hz := zero65
  have hT : Tb (w.alloc (.cells (tcells n 0 (List.replicate 64 o0)) 65)) w.heap.size n [] := ⟨⟨List.replicate 64 o0, putAll _ _ rfl, by simp⟩, h1, h2, Nat.zero_le _⟩
  have hB : Below w.heap.size w (w.alloc (.cells (tcells n 0 (List.replicate 64 o0)) 65)) := (Below.refl _ w).alloc (Nat.le_refl _) _
  have HT := hide hT
  have HB := hide hB
  have he : (tcells 0 0 (List.replicate 64 o0)).setIfInBounds 0 (I n) = tcells n 0 (List.replicate 64 o0) := by
    unfold tcells; rw [List.setIfInBounds_toArray]; rfl
  have hne : ¬ (tcells 0 0 (List.replicate 64 o0)) = #[] := by simp [tcells]
  clear hT hB
  generalize tcells n 0 (List.replicate 64 o0) = Z at *
  generalize tcells 0 0 (List.replicate 64 o0) = Y at *
  have q1 : ¬ (n : Int) < 1 := by omega
  have q2 : ¬ (64 : Int) < (n : Int) := by omega
  go_enter Try.func7, Try.ntmps7
  go_wp2_with fail
  go_ret2
  exact ⟨rfl, unhide HT, unhide HB⟩

/-- A file without what it is called by. -/
abbrev Op.fv (o : Op) : Value := .agg #[I o.m, I o.n, I o.f, I o.s]
/-- A file of noughts in a new block. -/
theorem fresh4 (w : World) (t : TypeId) : ∃ V, w.alloc (.cells #[I 0, I 0, I 0, I 0] t) = V ∧ V.heap[w.heap.size]? = some (.cells #[I 0, I 0, I 0, I 0] t) ∧ Below w.heap.size w V ∧ V.heap.size = w.heap.size + 1 :=
  ⟨_, rfl, putAll (w := w) (.cells #[I 0, I 0, I 0, I 0] t) w.heap.size rfl, (Below.refl _ _).alloc (Nat.le_refl _) _, by simp⟩
theorem fresh2 (w : World) (t : TypeId) : ∃ V, w.alloc (.cells #[I 0, I 0] t) = V ∧ V.heap[w.heap.size]? = some (.cells #[I 0, I 0] t) ∧ Below w.heap.size w V ∧ V.heap.size = w.heap.size + 1 :=
  ⟨_, rfl, putAll (w := w) (.cells #[I 0, I 0] t) w.heap.size rfl, (Below.refl _ _).alloc (Nat.le_refl _) _, by simp⟩
/-- A store of four cells, and of two, into a block of its own. -/
theorem store4 {W : World} {b : Nat} {t : TypeId} {a0 a1 a2 a3 : Value} (h : W.heap[b]? = some (.cells #[a0, a1, a2, a3] t)) (v0 v1 v2 v3 : Value) :
    ∃ X1 X2 X3 X4 : World, (W.setCell ⟨b, 0, none⟩ v0 = X1 ∧ X1.setCell ⟨b, 1, none⟩ v1 = X2 ∧ X2.setCell ⟨b, 2, none⟩ v2 = X3 ∧ X3.setCell ⟨b, 3, none⟩ v3 = X4) ∧
      (W.cell? ⟨b, 0, none⟩ = some a0 ∧ X1.cell? ⟨b, 1, none⟩ = some a1 ∧ X2.cell? ⟨b, 2, none⟩ = some a2 ∧ X3.cell? ⟨b, 3, none⟩ = some a3) ∧
      (W.frozen? ⟨b, 0, none⟩ = false ∧ X1.frozen? ⟨b, 1, none⟩ = false ∧ X2.frozen? ⟨b, 2, none⟩ = false ∧ X3.frozen? ⟨b, 3, none⟩ = false) ∧
      X4.heap[b]? = some (.cells #[v0, v1, v2, v3] t) ∧ Fr b W X4 ∧ X4.heap.size = W.heap.size := by
  have h1 := heap_set h 0 v0
  have h2 := heap_set h1 1 v1
  have h3 := heap_set h2 2 v2
  have h4 := heap_set h3 3 v3
  refine ⟨_, _, _, _, ⟨rfl, rfl, rfl, rfl⟩, ⟨?_, ?_, ?_, ?_⟩, ⟨frozen_of h _, frozen_of h1 _, frozen_of h2 _, frozen_of h3 _⟩, h4, ?_, ?_⟩
  · rw [cell_of h]; rfl
  · rw [cell_of h1]; rfl
  · rw [cell_of h2]; rfl
  · rw [cell_of h3]; rfl
  · exact ((((Fr.refl b W).set (p := ⟨b, 0, none⟩) rfl v0).set (p := ⟨b, 1, none⟩) rfl v1).set (p := ⟨b, 2, none⟩) rfl v2).set (p := ⟨b, 3, none⟩) rfl v3
  · simp [World.setCell]
theorem store2 {W : World} {b : Nat} {t : TypeId} {a0 a1 : Value} (h : W.heap[b]? = some (.cells #[a0, a1] t)) (v0 v1 : Value) :
    ∃ X1 X2 : World, (W.setCell ⟨b, 0, none⟩ v0 = X1 ∧ X1.setCell ⟨b, 1, none⟩ v1 = X2) ∧
      (W.cell? ⟨b, 0, none⟩ = some a0 ∧ X1.cell? ⟨b, 1, none⟩ = some a1) ∧ (W.frozen? ⟨b, 0, none⟩ = false ∧ X1.frozen? ⟨b, 1, none⟩ = false) ∧
      X2.heap[b]? = some (.cells #[v0, v1] t) ∧ Fr b W X2 ∧ X2.heap.size = W.heap.size := by
  have h1 := heap_set h 0 v0
  have h2 := heap_set h1 1 v1
  refine ⟨_, _, ⟨rfl, rfl⟩, ⟨?_, ?_⟩, ⟨frozen_of h _, frozen_of h1 _⟩, h2, ?_, ?_⟩
  · rw [cell_of h]; rfl
  · rw [cell_of h1]; rfl
  · exact ((Fr.refl b W).set (p := ⟨b, 0, none⟩) rfl v0).set (p := ⟨b, 1, none⟩) rfl v1
  · simp [World.setCell]
theorem cells4 {W : World} {b : Nat} {t : TypeId} {a0 a1 a2 a3 : Value} (h : W.heap[b]? = some (.cells #[a0, a1, a2, a3] t)) :
    W.cell? ⟨b, 0, none⟩ = some a0 ∧ W.cell? ⟨b, 1, none⟩ = some a1 ∧ W.cell? ⟨b, 2, none⟩ = some a2 ∧ W.cell? ⟨b, 3, none⟩ = some a3 := by
  refine ⟨?_, ?_, ?_, ?_⟩ <;> rw [cell_of h] <;> rfl
theorem cells2 {W : World} {b : Nat} {t : TypeId} {a0 a1 : Value} (h : W.heap[b]? = some (.cells #[a0, a1] t)) :
    W.cell? ⟨b, 0, none⟩ = some a0 ∧ W.cell? ⟨b, 1, none⟩ = some a1 := by
  refine ⟨?_, ?_⟩ <;> rw [cell_of h] <;> rfl

set_option maxRecDepth 100000 in
set_option maxHeartbeats 1000000 in
theorem seek_any (b n : Nat) (es : List Op) (p d s : Int) (w : World) (h : Tb w b n es) :
    Calls Try.prog 10 #[.pointer (some ⟨b, 0, none⟩), I p, I d, I s] w fun e w' => e = .returned (I (seekE es p d s)) ∧ Tb w' b n (seekL es p d s) ∧ Fr b w w' := by
  have HN := hide (find_any b n es p d w h)
  have HT := hide h
  clear h
  by_cases he : findE es p d = 0
  · obtain ⟨-, hi, hA, o, ho, -, -⟩ := findE_zero he
    have hg : getV es p d = o := by unfold getV; rw [if_pos he, ho]; rfl
    rw [he, hA] at HN
    have h64 := (unhide HT).c64
    by_cases hs : s < 0
    · rw [show seekE es p d s = 39 by unfold seekE; rw [if_pos he, if_pos hs], show seekL es p d s = es by unfold seekL; rw [if_pos he, if_pos hs]]
      generalize hix : fdI es p d = ix at *
      clear hA ho hix hi he hg
      go_enter Try.func10, Try.ntmps10
      go_wp2_with fail
      refine (unhide HN).mono ?_
      rintro e w1 ⟨rfl, hB⟩
      have HB := hide hB
      clear hB HN
      go_wp2_with fail
      go_ret
      exact ⟨rfl, (unhide HT).below (unhide HB), .of_below (unhide HB)⟩
    · have hs0 : 0 ≤ s := by omega
      rw [show seekE es p d s = 0 by unfold seekE; rw [if_pos he, if_neg hs], show seekL es p d s = es.set (fdI es p d) { o with s := s } by unfold seekL; rw [if_pos he, if_neg hs, hg]]
      generalize hix : fdI es p d = ix at *
      have HO := hide ho
      clear hA ho hix he hg
      have j1 : (ix : Int) < 64 := by omega
      have j0 : (0 : Int) ≤ (ix : Int) := by omega
      go_enter Try.func10, Try.ntmps10
      go_wp2_with fail
      refine (unhide HN).mono ?_
      rintro e w1 ⟨rfl, hB⟩
      have hT1 := (unhide HT).below hB
      obtain ⟨c0, c1, c2, c3, c4, c5⟩ := hT1.file (unhide HO)
      obtain ⟨b0, b1, bf⟩ := hT1.cells
      have hT2 : Tb (w1.setCell ⟨b, 2 + ix * 6 + 5, none⟩ (I s)) b n (es.set ix { o with s := s }) := by
        obtain ⟨r, hr, hl⟩ := hT1.hb
        have hi' : (es ++ r)[ix]? = some o := by rw [List.getElem?_append_left (List.getElem?_eq_some_iff.1 (unhide HO)).1]; exact unhide HO
        refine ⟨⟨r, ?_, by rw [List.length_set]; exact hl⟩, hT1.n1, hT1.n64, by rw [List.length_set]; exact hT1.le⟩
        rw [heap_set hr, tcells_set (o' := { o with s := s }) hi' (by omega) rfl, List.set_append_left _ _ hi, List.length_set]
      have hF2 : Fr b w (w1.setCell ⟨b, 2 + ix * 6 + 5, none⟩ (I s)) := (Fr.of_below hB).set (p := ⟨b, 2 + ix * 6 + 5, none⟩) rfl _
      have H2 := hide hT2
      have H3 := hide hF2
      clear hB HN c0 c1 c2 c3 c4 b0 b1 hT1 hT2 hF2
      go_wp2_with fail
      go_ret
      exact ⟨rfl, unhide H2, unhide H3⟩
  · rw [show seekE es p d s = findE es p d by unfold seekE; rw [if_neg he], show seekL es p d s = es by unfold seekL; rw [if_neg he]]
    generalize findE es p d = er at *
    generalize findA es p d = an at *
    go_enter Try.func10, Try.ntmps10
    go_wp2_with fail
    refine (unhide HN).mono ?_
    rintro e w1 ⟨rfl, hB⟩
    have HB := hide hB
    clear hB HN
    go_wp2_with fail
    go_ret
    exact ⟨rfl, (unhide HT).below (unhide HB), .of_below (unhide HB)⟩

set_option maxRecDepth 100000 in
set_option maxHeartbeats 1000000 in
theorem get_any (b n : Nat) (es : List Op) (p d : Int) (w : World) (h : Tb w b n es) :
    Calls Try.prog 11 #[.pointer (some ⟨b, 0, none⟩), I p, I d] w fun e w' => e = .returned (.tuple #[Op.fv (getV es p d), I (findE es p d)]) ∧ Below w.heap.size w w' := by
  obtain ⟨V, hV, hv, hBV, hsV⟩ := fresh4 w 34
  have hT := h.below hBV
  have HN := hide (find_any b n es p d V hT)
  have hbl := h.lt
  have HT := hide hT
  have HV := hide hBV
  have Hv := hide hv
  clear h hT hBV hv
  by_cases he : findE es p d = 0
  · obtain ⟨-, hi, hA, o, ho, -, -⟩ := findE_zero he
    have hg : getV es p d = o := by unfold getV; rw [if_pos he, ho]; rfl
    rw [he, hA] at HN
    rw [he, hg]
    have h64 := (unhide HT).c64
    generalize hix : fdI es p d = ix at *
    have HO := hide ho
    clear hA ho hix he hg
    have j1 : (ix : Int) < 64 := by omega
    have j0 : (0 : Int) ≤ (ix : Int) := by omega
    go_enter Try.func11, Try.ntmps11
    go_wp2_with fail
    refine (unhide HN).mono ?_
    rintro e w1 ⟨rfl, hB⟩
    have hT1 := (unhide HT).below hB
    obtain ⟨c0, c1, c2, c3, c4, c5⟩ := hT1.file (unhide HO)
    have hv1 := (hB.block w.heap.size (by omega)).trans (unhide Hv)
    obtain ⟨X1, X2, X3, X4, ⟨e1, e2, e3, e4⟩, ⟨d0, d1, d2, d3⟩, ⟨f0, f1, f2, f3⟩, hx, hF, hs⟩ := store4 hv1 (I o.m) (I o.n) (I o.f) (I o.s)
    obtain ⟨x0, x1, x2, x3⟩ := cells4 hx
    have HE : Hid (Below w.heap.size w X4) := ((unhide HV).trans (hB.mono (by omega))).trans (hF.below (Nat.le_refl _) (by have := hB.size; omega))
    clear HN hT1 hv1 hx hF hs hB HT Hv HV HO hV hsV
    go_wp2_with fail
    refine bodyPost_ret (v := .tuple #[Op.fv o, I 0]) (by simp [results, Try.results11, go_sem, x0, x1, x2, x3]) rfl ?_
    exact ⟨rfl, unhide HE⟩
  · have hg : getV es p d = o0 := by unfold getV; rw [if_neg he]
    rw [hg]
    generalize findE es p d = er at *
    generalize findA es p d = an at *
    go_enter Try.func11, Try.ntmps11
    go_wp2_with fail
    refine (unhide HN).mono ?_
    rintro e w1 ⟨rfl, hB⟩
    have hv1 := (hB.block w.heap.size (by omega)).trans (unhide Hv)
    obtain ⟨X1, X2, X3, X4, ⟨e1, e2, e3, e4⟩, ⟨d0, d1, d2, d3⟩, ⟨f0, f1, f2, f3⟩, hx, hF, hs⟩ := store4 hv1 (I 0) (I 0) (I 0) (I 0)
    obtain ⟨x0, x1, x2, x3⟩ := cells4 hx
    have HE : Hid (Below w.heap.size w X4) := ((unhide HV).trans (hB.mono (by omega))).trans (hF.below (Nat.le_refl _) (by have := hB.size; omega))
    clear HN hv1 hx hF hs hB HT Hv HV hV hsV
    go_wp2_with fail
    refine bodyPost_ret (v := .tuple #[Op.fv o0, I er]) (by simp [results, Try.results11, go_sem, x0, x1, x2, x3, o0]) rfl ?_
    exact ⟨rfl, unhide HE⟩
end Go.Proofs.Ytocaonbmijmbmaa
