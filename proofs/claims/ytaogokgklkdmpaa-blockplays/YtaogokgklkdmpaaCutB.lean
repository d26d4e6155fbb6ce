/-
  A file that is cut: the contract of cut.
-/
import Derived.Test.YtaogokgklkdmpaaCut
import Derived.Test.YtaogokgklkdmpaaWrite
namespace Go.Proofs.Ytaogokgklkdmpaa
open Go.RowKit Go.Maps

theorem clear74 (f : Nat → Int) (a r : Nat) (hr : r < 16) (w : World) (ty : TypeId) :
    (Builtin.clear_ #[28] ty #[.slice (some ⟨w.heap.size, r, none⟩) (16 - r) (16 - r)]).run Try.prog (w.alloc (.cells (lst f a 16).toArray 74)) = .ok (.tuple #[]) (w.alloc (.cells (lst (cutF f (a + r)) a 16).toArray 74)) := by
  have hst := run_storeCells_at Try.prog w.heap.size r 74 (lst (fun _ => 0) 0 (16 - r)) 0 (lst f a 16).toArray (w.alloc (.cells (lst f a 16).toArray 74)) (heap_alloc_new _ _) (by simp [lst_length]; omega) (lst_one _ _ _)
  have e : (lst f a 16).take r ++ lst (fun _ => 0) 0 (16 - r) ++ (lst f a 16).drop (r + (lst (fun _ => 0) 0 (16 - r)).length) = lst (cutF f (a + r)) a 16 := by
    rw [List.append_assoc]
    refine splice_lst (by omega) ?_ ?_
    · intro j hj
      simp only [cutF]
      rw [if_neg (by omega)]
    · intro j hj ho
      simp only [cutF]
      rw [if_pos (by omega)]
  simp only [Nat.add_zero] at hst
  rw [e, World.setRow_alloc_new] at hst
  obtain ⟨i0, hi, hz0, hz1, hz2⟩ := info_parts info5
  have hz : ∀ w, (zeroValue 5).run Try.prog w = .ok (U 0) w := fun w => by simp [zeroValue, typeInfo, hi, hz0]
  have hzc : (Builtin.zeroCells (Value.cells (U 0)) (16 - r)).toList = lst (fun _ => 0) 0 (16 - r) := by
    apply List.ext_getElem
    · simp [Builtin.zeroCells, lst_length, Value.cells]
    · intro j h1 h2
      simp [Builtin.zeroCells, lst, Value.cells, Nat.mod_one]
  have h28 : Try.prog.underlying 28 = some (.slice 5) := Try.underlying28
  obtain ⟨m, hm⟩ : ∃ m, 16 - r = m + 1 := ⟨15 - r, by omega⟩
  rw [hm] at hst hzc ⊢
  simp [Builtin.clear_, run_underlying h28, hz, hzc, hst]
set_option maxHeartbeats 1000000 in
theorem ccut_any {W : World} {c m : Nat} {x : F} (h : Fl W c m x) (s : Nat) (hs : s ≤ 1024) :
    Calls Try.prog 33 #[P0 c, I (s : Int)] W fun e w' => e = .returned (.tuple #[]) ∧ Fl w' c m (x.cut s) ∧ Fr [c, m] W w' := by
  have H := hide h
  obtain ⟨c0, c1, cf⟩ := h.cells
  have hcl := lt_of_heap h.hc
  have hcm : c ≠ m := by
    rintro rfl
    obtain ⟨D, ⟨es, k, h1, _⟩, _⟩ := h.hm
    rw [h.hc] at h1
    cases h1
  have k1 : ∀ o, (W.alloc o).cell? ⟨c, 1, none⟩ = some (.map (some m)) := fun o => by simp [World.cell?, Below.heap_alloc _ _ _ hcl]; simpa [World.cell?] using c1
  have hmf : ∀ (fn : Fn) (first cap : Array Value) (w : World), (Instr.makeFunc fn first cap).run Try.prog w = .ok (.func fn first cap) w := fun _ _ _ _ => rfl
  clear h c0 c1 cf
  go_enter Try.func33, Try.ntmps33
  go_wp2_with fail
  obtain ⟨cb, hcb⟩ : ∃ cb, cb = W.heap.size := ⟨_, rfl⟩
  have hx := (unhide H).ok
  refine (deleteFunc_any (cb := W.heap.size) (s := s) ((unhide H).hm.alloc _) hx.sup hs (by rw [cell_of (heap_alloc_new _ _)]; rfl)).mono ?_
  rintro e w1 ⟨rfl, M1, F1⟩
  have hml := (unhide H).hm.lt
  have hcw : w1.heap[c]? = some (.cells #[I x.size, .map (some m)] 57) := by
    rw [F1.blk c (by simp; omega) (by simpa using hcm), Below.heap_alloc _ _ _ hcl]
    exact (unhide H).hc
  have hbw : w1.heap[W.heap.size]? = some (.cells #[I (s : Int)] 3) := by
    rw [F1.blk W.heap.size (by simp) (by simp; omega)]
    exact heap_alloc_new _ _
  have F1' : Fr [m] W w1 := ((Fr.refl [m] W).alloc _).trans F1
  clear k1
  have k1 : w1.cell? ⟨c, 1, none⟩ = some (.map (some m)) := by rw [cell_of hcw]; rfl
  have kb : w1.cell? ⟨W.heap.size, 0, none⟩ = some (I (s : Int)) := by rw [cell_of hbw]; rfl
  have kf : ∀ i, w1.frozen? ⟨c, i, none⟩ = false := frozen_of hcw
  have hw1 : W.heap.size < w1.heap.size := lt_of_heap hbw
  have kc0 : ∀ o, (w1.alloc o).cell? ⟨c, 0, none⟩ = some (I x.size) := fun o => by
    have h1 : (w1.alloc o).heap[c]? = some (.cells #[I x.size, .map (some m)] 57) := by rw [Below.heap_alloc _ _ _ (lt_of_heap hcw)]; exact hcw
    rw [cell_of h1]; rfl
  have kcf : ∀ o, (w1.alloc o).frozen? ⟨c, 0, none⟩ = false := fun o => by
    have h1 : (w1.alloc o).heap[c]? = some (.cells #[I x.size, .map (some m)] 57) := by rw [Below.heap_alloc _ _ _ (lt_of_heap hcw)]; exact hcw
    exact frozen_of h1 _
  rw [← hcb] at kb hbw hw1 ⊢
  obtain ⟨q, r, hq, hr⟩ : ∃ q r : Nat, s = 16 * q + r ∧ r < 16 := ⟨s / 16, s % 16, by omega, by omega⟩
  have r0 : (0 : Int) ≤ (r : Int) := by omega
  have r1 : (r : Int) < 16 := by omega
  have hq1 : q ≤ 64 := by omega
  have hlk := M1.look_ok ht55 (zero74 _) (k := (q : Int)) (wf_of (by omega))
  have fin : ∀ w2 : World, w2.heap[c]? = some (.cells #[I x.size, .map (some m)] 57) → Mp w2 m 64 (bk (cutF x.byte s) (cutH x.has s)) → Fr [m] W w2 →
      Fl (w2.setCell ⟨c, 0, none⟩ (I (s : Int))) c m (x.cut s) ∧ Fr [c, m] W (w2.setCell ⟨c, 0, none⟩ (I (s : Int))) := by
    intro w2 h1 h2 h3
    refine ⟨⟨?_, h2.same (Below.heap_setCell _ _ _ _ (by exact hcm.symm)), F.cut_ok hx hs⟩, (h3.mono (by simp)).set (by simp) _⟩
    rw [heap_set h1]
    rfl
  replace fin := hide fin
  have HM1 := hide M1
  have HF1 := hide F1'
  have HC1 := hide hcw
  have HCB := hide hcb
  have HX := hide hx
  replace hq := hide hq
  clear M1 F1 F1' hcw hbw hcb hx
  go_wp2_with fail
  refine (split_any _ q r (by rw [← unhide hq]) hr (by omega) _).mono ?_
  rintro e w2 ⟨rfl, rfl⟩
  cases hh : cutH x.has s q with
  | true =>
    rw [bk_get, hh] at hlk
    simp only [if_true, Option.getD_some, Option.isSome_some] at hlk
    obtain ⟨R, hR⟩ : ∃ R, R = (lst x.byte (16 * q) 16).toArray := ⟨_, rfl⟩
    have hRs : R.size = 16 := by rw [hR]; simp [lst_length]
    have hst := store74 hRs (by rw [hR]; exact lst_all _ _ _)
    rw [← hR] at hlk
    obtain ⟨R2, hR2⟩ : ∃ R2, R2 = (lst (cutF x.byte s) (16 * q) 16).toArray := ⟨_, rfl⟩
    have hRs2 : R2.size = 16 := by rw [hR2]; simp [lst_length]
    have hcl2 : ∀ (w : World) (ty : TypeId), (Builtin.clear_ #[28] ty #[.slice (some ⟨w.heap.size, r, none⟩) (16 - r) (16 - r)]).run Try.prog (w.alloc (.cells R 74)) = .ok (.tuple #[]) (w.alloc (.cells R2 74)) := by
      intro w ty
      have := clear74 x.byte (16 * q) r hr w ty
      rw [← unhide hq] at this
      rw [hR, hR2]
      exact this
    have hsl := slice74 w2.heap.size r hr
    replace hR := hide hR
    replace hR2 := hide hR2
    replace hRs2 := hide hRs2
    go_wp2_with fail
    obtain ⟨w4, hw4⟩ : ∃ w4, w4 = w2.alloc (Obj.cells R2 74) := ⟨_, rfl⟩
    rw [← hw4]
    have G4 : w4.heap[w2.heap.size]? = some (.cells R2 74) := by rw [hw4]; exact heap_alloc_new _ _
    have hcl4 := lt_of_heap (unhide HC1)
    have hc4 : w4.heap[c]? = some (.cells #[I x.size, .map (some m)] 57) := by rw [hw4, Below.heap_alloc _ _ _ hcl4]; exact unhide HC1
    have hb4 : w4.cell? ⟨cb, 0, none⟩ = some (I (s : Int)) := by
      have : w4.heap[cb]? = w2.heap[cb]? := by rw [hw4, Below.heap_alloc _ _ _ hw1]
      rw [cell_same this]; exact kb
    have M4 : Mp w4 m 64 (bk x.byte (cutH x.has s)) := by rw [hw4]; exact (unhide HM1).alloc _
    have F4 : Fr [m] W w4 := by rw [hw4]; exact (unhide HF1).alloc _
    have k4 : w4.cell? ⟨c, 1, none⟩ = some (.map (some m)) := by rw [cell_of hc4]; rfl
    obtain ⟨y0, y1, y2, y3, y4, y5, y6, y7, y8, y9, y10, y11, y12, y13, y14, y15, e16, z0, z1, z2, z3, z4, z5, z6, z7, z8, z9, z10, z11, z12, z13, z14, z15⟩ := row16 G4 (unhide hRs2)
    obtain ⟨w5, hrun, M5, F5, _⟩ := M4.drew.store ht55 (by decide) (k := (q : Int)) (wf_of (by omega)) (.agg #[y0, y1, y2, y3, y4, y5, y6, y7, y8, y9, y10, y11, y12, y13, y14, y15])
    have M5' : Mp w5 m 64 (bk (cutF x.byte s) (cutH x.has s)) := by
      rw [← e16, unhide hR2] at M5
      have e2 := unhide hq
      refine Mp.tight (n := 64) (M5.congr (upd_bk (h' := cutH x.has s) hh ?_)) (by omega) (bk_sup (n := 64) ?_)
      · intro j hj
        refine ⟨rfl, fun hj2 i hi => ?_⟩
        simp only [cutH, Bool.and_eq_true, decide_eq_true_eq] at hj2
        simp only [cutF]
        rw [if_pos (by omega)]
      · intro k hk
        simp only [cutH, Bool.and_eq_true] at hk
        exact (unhide HX).sup k hk.1
    have hc5 : w5.heap[c]? = some (.cells #[I x.size, .map (some m)] 57) := by
      rw [F5.blk c (lt_of_heap hc4) (by simpa using hcm)]
      exact hc4
    have kc5 : w5.cell? ⟨c, 0, none⟩ = some (I x.size) := by rw [cell_of hc5]; rfl
    have kf5 : w5.frozen? ⟨c, 0, none⟩ = false := frozen_of hc5 _
    have kb5 : w5.cell? ⟨cb, 0, none⟩ = some (I (s : Int)) := by
      have hcb5 : cb ∉ [m] := by have := unhide HCB; simp; omega
      rw [cell_same (F5.blk cb (lt_of_cell hb4) hcb5)]
      exact hb4
    have HM5 := hide M5'
    have HF5 := hide (F4.drew.trans F5)
    have HC5 := hide hc5
    clear M5 M5' F5 F4 M4 G4 hsl hcl2 hst hlk hc4 hc5 e16 hw4 k1 kf kc0 kcf
    go_region
    go_wp2_with fail
    go_end0
    exact ⟨rfl, unhide fin _ (unhide HC5) (unhide HM5) (unhide HF5)⟩
  | false =>
    rw [bk_get, hh] at hlk
    simp only [Bool.false_eq_true, if_false, Option.getD_none, Option.isSome_none] at hlk
    obtain ⟨R, hR⟩ : ∃ R, R = Z16 := ⟨_, rfl⟩
    have hRs : R.size = 16 := by rw [hR]; simp [lst_length]
    have hst := store74 hRs (by rw [hR]; exact lst_all _ _ _)
    rw [← hR] at hlk
    replace hR := hide hR
    go_wp2_with fail
    go_end0
    refine ⟨rfl, ?_⟩
    have hcw := unhide HC1
    refine unhide fin _ (by rw [Below.heap_alloc _ _ _ (lt_of_heap hcw)]; exact hcw) ?_ ((unhide HF1).alloc _)
    refine ((unhide HM1).alloc _).congr fun k => bk_cong (fun j hj i hi => ?_) k
    have e2 := unhide hq
    have hne : j ≠ q := by
      rintro rfl
      rw [hh] at hj
      cases hj
    simp only [cutH, Bool.and_eq_true, decide_eq_true_eq] at hj
    simp only [cutF]
    rw [if_pos (by omega)]
end Go.Proofs.Ytaogokgklkdmpaa
