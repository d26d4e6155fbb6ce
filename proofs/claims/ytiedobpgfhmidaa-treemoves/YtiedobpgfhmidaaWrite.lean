/-
  A file's bytes, written: the contract of write.
-/
import Derived.Test.YtiedobpgfhmidaaWriteA
namespace Go.Proofs.Ytiedobpgfhmidaa
open Go.RowKit Go.Maps

set_option maxRecDepth 100000 in
set_option maxHeartbeats 1000000 in
theorem cwrite_any {W : World} {c m : Nat} {x : F} (h : Fl W c m x) (a n : Nat) (hn : 0 < n) (ha : a + n ≤ 1024) (sb so cap : Nat) (g : Nat → Int) (hs : Bs W sb so n g) (hcap : n ≤ cap) :
    Calls Try.prog 61 #[P0 c, I (a : Int), .slice (some ⟨sb, so, none⟩) n cap] W fun e w' => e = .returned (.tuple #[]) ∧ Fl w' c m (x.write a n g) ∧ Fr [c, m] W w' := by
  have H := hide h
  have HS := hide hs
  have hmax := h.ok.most
  have hcm : c ≠ m := by
    rintro rfl
    obtain ⟨D, ⟨es, k, h1, _⟩, _⟩ := h.hm
    rw [h.hc] at h1
    cases h1
  clear h hs
  go_enter Try.func61, Try.ntmps61
  go_wp2_with fail
  go_loopw [6] (fun v wr => ∃ (d : Nat), d ≤ n ∧ v = I (d : Int) ∧ Hid (Mp wr m 64 (bk (lay x.byte a d g) (layH x.has a d))) ∧ Hid (Fr [m] W wr)) (fun v _ => n - (intOf v).toNat)
  case atStart =>
    refine ⟨0, by omega, rfl, hide ?_, hide (Fr.refl _ _)⟩
    rw [lay_zero, layH_zero]
    exact (unhide H).hm
  case round =>
    obtain ⟨d, hd, rfl, hM, hF⟩ := hrel
    have hc := ((unhide hF).blk c (lt_of_heap (unhide H).hc) (by simpa using hcm)).trans (unhide H).hc
    by_cases hdn : d < n
    · have g1 : (d : Int) < (n : Int) := by omega
      have g0 : (0 : Int) ≤ (d : Int) := by omega
      obtain ⟨q, r, hq, hr⟩ : ∃ q r : Nat, a + d = 16 * q + r ∧ r < 16 := ⟨(a + d) / 16, (a + d) % 16, by omega, by omega⟩
      have hlk := (unhide hM).look ht55 (zero74 _) (k := (q : Int)) (wf_of (by omega))
      rw [bk_row (lay_hol (unhide H).ok.hol a d g)] at hlk
      have c1 : wr.cell? ⟨c, 1, none⟩ = some (.map (some m)) := by rw [cell_of hc]; rfl
      obtain ⟨R, hR⟩ : ∃ R, R = (lst (lay x.byte a d g) (16 * q) 16).toArray := ⟨_, rfl⟩
      have hRs : R.size = 16 := by rw [hR]; simp [lst_length]
      have hst := store74 hRs (by rw [hR]; exact lst_all _ _ _)
      rw [← hR] at hlk
      replace hR := hide hR
      have r0 : (0 : Int) ≤ (r : Int) := by omega
      have r1 : (r : Int) < 16 := by omega
      have a1 : (a : Int) ≤ 1024 := by omega
      have d1 : (d : Int) ≤ 1024 := by omega
      have dcap : ¬ cap = d := by omega
      replace hq := hide hq
      replace hc := hide hc
      have gn : (n : Int) ≤ 1024 := by omega
      go_wp2_with fail
      refine (split_any _ q r (by rw [← unhide hq]; omega) hr (by have := unhide hq; omega) _).mono ?_
      rintro e1 w1 ⟨rfl, rfl⟩
      go_wp2_with fail
      obtain ⟨w2, hw2⟩ : ∃ w2, w2 = w1.alloc (Obj.cells R 121) := ⟨_, rfl⟩
      rw [← hw2]
      have G2 : w2.heap[w1.heap.size]? = some (.cells R 121) := by rw [hw2]; exact heap_alloc_new _ _
      have F2 : Fr [m] W w2 := by rw [hw2]; exact (unhide hF).alloc _
      have M2 : Mp w2 m 64 (bk (lay x.byte a d g) (layH x.has a d)) := by rw [hw2]; exact (unhide hM).alloc _
      have hcl := lt_of_heap (unhide hc)
      have hml := (unhide hM).lt
      have hc2 : w2.heap[c]? = some (.cells #[I x.size, .map (some m)] 107) := by rw [hw2, Below.heap_alloc _ _ _ hcl]; exact unhide hc
      have hsz := (unhide hF).size
      obtain ⟨n1, n2⟩ := (unhide HS).apart hn (unhide H)
      have HS2 : Bs w2 sb so n g := (unhide HS).fr F2 (by simpa using n2)
      have hsl0 := (unhide HS).lt hn
      clear hlk c1 hst
      obtain ⟨b2, hb2⟩ : ∃ b2, b2 = w1.heap.size := ⟨_, rfl⟩
      rw [← hb2] at G2 hcl hml hsz ⊢
      obtain ⟨mm, hmm⟩ : ∃ mm, mm = min (n - d) (16 - r) := ⟨_, rfl⟩
      have hpos : 0 < mm := by omega
      have C2 : ∀ j v, (lst g d mm)[j]? = some v → w2.cell? ((⟨sb, so + d, none⟩ : Addr).add j) = some v := by
        intro j v hv
        rw [lst_get] at hv
        split at hv
        · rw [Addr.add_mid, ← hv, Nat.add_assoc]
          exact HS2 _ (by omega)
        · cases hv
      obtain ⟨L, hL⟩ : ∃ L, L = lst (lay x.byte a d g) (16 * q) 16 := ⟨_, rfl⟩
      have hLR : R = L.toArray := by rw [unhide hR, hL]
      rw [hLR] at G2
      replace hLR := hide hLR
      replace hL := hide hL
      replace hw2 := hide hw2
      replace hmm := hide hmm
      replace G2 := hide G2
      replace F2 := hide F2
      replace M2 := hide M2
      replace C2 := hide C2
      replace hc2 := hide hc2
      replace HS2 := hide HS2
      replace hb2 := hide hb2
      have hsl := slice74 b2 r hr
      have hsz2 : w2.heap.size ≤ w2.heap.size := Nat.le_refl _
      go_region_law (refine step_copy_splice (by rfl) (.tmp 29) (.tmp 32) 45 45 (by rfl) 5 Try.underlying45 size5 (some ⟨b2, r, none⟩) (some ⟨sb, so + d, none⟩) (16 - r) (16 - r) (n - d) (cap - d) (by rfl) (by rfl) b2 r L 121 (unhide G2) (lst g d mm) (by rw [lst_length]; exact unhide hmm) (fun _ => ⟨rfl, _, rfl, unhide C2⟩) (by rw [lst_length, unhide hL, lst_length]; have := unhide hmm; omega) (lst_one _ _ _) b2 w2 (below_dn (Below.refl _ _) _) (Nat.le_refl _) ?_; intro w4 hg4 hb4)
      rw [lst_length, wrap_ok (by have := unhide hmm; omega)]
      simp only [Act.put, List.getElem_toArray, List.getElem_cons_succ, List.getElem_cons_zero, List.setIfInBounds_toArray, List.set_cons_zero, List.set_cons_succ]
      have HB4 := hide hb4
      clear hb4
      go_wp2_with fail
      have hB4 := (unhide HB4)
      have hmap : lst (lay x.byte a (d + mm) g) (16 * q) 16 = splice L r (lst g d mm) := by
        have e := unhide hmm
        have e2 := unhide hq
        rw [unhide hL]
        refine (splice_lst (by omega) ?_ ?_).symm
        · intro j hj
          simp only [lay]
          rw [if_pos (by omega)]
          congr 1
          omega
        · intro j hj ho
          simp only [lay]
          by_cases h1 : a ≤ 16 * q + j ∧ 16 * q + j < a + d
          · rw [if_pos (by omega), if_pos (by omega)]
          · rw [if_neg (by omega), if_neg (by omega)]
      obtain ⟨R', hR'⟩ : ∃ R', R' = (lst (lay x.byte a (d + mm) g) (16 * q) 16).toArray := ⟨_, rfl⟩
      have hRs' : R'.size = 16 := by rw [hR']; simp [lst_length]
      have G4 : w4.heap[b2]? = some (.cells R' 121) := by rw [unhide hg4, ← hmap, hR']
      have k4 : w4.cell? ⟨c, 1, none⟩ = some (.map (some m)) := by rw [cell_of ((hB4.block c hcl).trans (unhide hc2))]; rfl
      have M4 : Mp w4 m 64 (bk (lay x.byte a d g) (layH x.has a d)) := (unhide M2).same (hB4.block m hml)
      have hF2 := unhide F2
      have F4 : Fr [m] W w4 := ⟨hB4.os.trans hF2.os, hB4.tape.trans hF2.tape, hB4.output.trans hF2.output, Nat.le_trans hF2.size hB4.size, fun k hk hs => (hB4.block k (by omega)).trans (hF2.blk k hk hs)⟩
      obtain ⟨y0, y1, y2, y3, y4, y5, y6, y7, y8, y9, y10, y11, y12, y13, y14, y15, e16, z0, z1, z2, z3, z4, z5, z6, z7, z8, z9, z10, z11, z12, z13, z14, z15⟩ := row16 G4 hRs'
      rw [e16] at hR'
      obtain ⟨w5, hrun, M5, F5, _⟩ := M4.drew.store ht55 (by decide) (k := (q : Int)) (wf_of (by have := unhide hq; omega)) (.agg #[y0, y1, y2, y3, y4, y5, y6, y7, y8, y9, y10, y11, y12, y13, y14, y15])
      have HM5 := hide M5
      have HF5 := hide F5
      have HF4 := hide F4
      clear M5 F5 F4 M4 G4 hmap hsl hB4 hF2 e16 hRs'
      replace hR' := hide hR'
      go_region
      go_wp2_with fail
      have e := unhide hmm
      have e2 := unhide hq
      refine ⟨⟨d + mm, by omega, rfl, hide ?_, hide ((unhide HF4).drew.trans (unhide HF5))⟩, by simp [intOf]; omega⟩
      have M5 := unhide HM5
      rw [unhide hR'] at M5
      refine Mp.tight (n := 64) (M5.congr (upd_bk (h' := layH x.has a (d + mm)) ?_ ?_)) (by omega) (bk_sup (n := 64) ?_)
      · simp only [layH, Bool.or_eq_true, decide_eq_true_eq]
        right
        omega
      · intro j hj
        refine ⟨?_, fun _ i hi => ?_⟩
        · simp only [layH]
          congr 1
          rw [decide_eq_decide]
          omega
        · simp only [lay]
          by_cases h1 : a ≤ i ∧ i < a + d
          · rw [if_pos (by omega), if_pos (by omega)]
          · rw [if_neg (by omega), if_neg (by omega)]
      · intro k hk
        simp only [layH, Bool.or_eq_true, decide_eq_true_eq] at hk
        rcases hk with hk | hk
        · exact (unhide H).ok.sup k hk
        · omega
    · obtain rfl : d = n := by omega
      have g1 : ¬ (d : Int) < (d : Int) := by omega
      have k0 : wr.cell? ⟨c, 0, none⟩ = some (I x.size) := by rw [cell_of hc]; rfl
      have kf : wr.frozen? ⟨c, 0, none⟩ = false := frozen_of hc _
      have HC := hide hc
      clear hc
      have b0 : (0 : Int) ≤ (a : Int) := by omega
      have b1 : (a : Int) ≤ 1024 := by omega
      have b2 : (d : Int) ≤ 1024 := by omega
      have b3 : (x.size : Int) ≤ 1024 := by omega
      have hx := (unhide H).ok
      have fin : ∀ s : Nat, s = max x.size (a + d) → Fl (wr.setCell ⟨c, 0, none⟩ (I (s : Int))) c m (x.write a d g) ∧ Fr [c, m] W (wr.setCell ⟨c, 0, none⟩ (I (s : Int))) := by
        intro s es
        refine ⟨⟨?_, (unhide hM).same (Below.heap_setCell _ _ _ _ (by exact hcm.symm)), F.write_ok hx g (by omega)⟩, ((unhide hF).mono (by simp)).set (by simp) _⟩
        rw [heap_set (unhide HC), es]
        rfl
      replace fin := hide fin
      replace hx := hide hx
      go_wp2_with fail
      · go_end0
        refine ⟨rfl, ?_⟩
        have := unhide fin (a + d) (by omega)
        simpa using this
      · go_end0
        refine ⟨rfl, ?_⟩
        exact unhide fin x.size (by omega)
end Go.Proofs.Ytiedobpgfhmidaa
