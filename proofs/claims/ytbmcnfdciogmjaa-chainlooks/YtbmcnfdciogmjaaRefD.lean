/-
  The document's table: Drop.
-/
import Derived.Test.YtbmcnfdciogmjaaRefX
namespace Go.Proofs.Ytbmcnfdciogmjaa
open Go.RowKit Go.Sort
attribute [local go_sem ↓] Go.wp_at_zero Go.wp_at_succ

theorem drop_at {m : Pairs} {k : ByteArray} {j : Nat} (h : m.findIdx (fun p => decide (p.1 = k)) = j) (hj : j < m.length) : drop m k = m.take j ++ m.drop (j + 1) := by
  unfold drop
  have e : m.findIdx? (fun p => decide (p.1 = k)) = some j := List.findIdx?_eq_some_iff_findIdx_eq.2 ⟨hj, h⟩
  rw [List.eraseP_eq_eraseIdx, e]
  exact List.eraseIdx_eq_take_drop_succ _ _
set_option maxRecDepth 100000 in
set_option maxHeartbeats 2000000 in
theorem rdrop_in (base rb i : Nat) (m : Pairs) (key : ByteArray) (v : Int) (w : World) (h : Rf base w rb m) (hm : m.length ≤ 64) (hp : pos m key = (i : Int)) (hi : m[i]? = some (key, v)) :
    Calls Try.prog 21 #[.pointer (some ⟨rb, 0, none⟩), .string key] w fun e w' => e = .returned (.tuple #[.int .i64 v, .int .i64 0]) ∧ Rf base w' rb (m.take i ++ m.drop (i + 1)) ∧ RFr base w w' := by
  have HF := hide (rfind_any base rb m key hm w h)
  rw [hp] at HF
  have hil := (List.getElem?_eq_some_iff.1 hi).1
  obtain ⟨a, cap, hb, own⟩ := h.hb
  have h0 : w.cell? ⟨rb, 0, none⟩ = some (.slice a m.length cap) := by rw [cell_of hb]; rfl
  have hf0 : ∀ i, w.frozen? ⟨rb, i, none⟩ = false := frozen_of hb
  have hlt := lt_of_heap hb
  have hkb := h.kb
  have hbs : base ≤ w.heap.size := by omega
  obtain ⟨_, ⟨e0, hz⟩ | ⟨g, cap', cur, e0, hgb, hgg, hcap, hcm, hcs, htk⟩⟩ := id own
  · omega
  simp only [Value.slice.injEq] at e0
  obtain ⟨rfl, -, rfl⟩ := e0
  have c1 : w.cell? ⟨g, i * 2 + 1, none⟩ = some (.int .i64 v) := by
    obtain ⟨_, p1⟩ := pairsV_get m i key v hi
    exact own_cells own _ _ p1
  have hgl := lt_of_heap hgg
  have hcm2 : cap ≤ 9223372036854775807 := by unfold maxLen at hcm; omega
  have j0 : (0 : Int) ≤ (i : Int) := by omega
  have j1 : (i : Int) < (m.length : Int) := by omega
  have j2 : ((i : Int) < 0) = False := by simp
  have j4 : i ≤ cap := by omega
  obtain ⟨p2, hp2⟩ : ∃ p2 : Addr, (if cap = i + 1 then some (⟨g, 0, none⟩ : Addr) else some ⟨g, (i + 1) * 2, none⟩) = some p2 := by
    by_cases hc : cap = i + 1
    · exact ⟨⟨g, 0, none⟩, by simp [hc]⟩
    · exact ⟨⟨g, (i + 1) * 2, none⟩, by simp [hc]⟩
  obtain ⟨v1, v2, W1, W2, r1, r2, own3, hBW, hfresh, hBW1⟩ := erase_run base w g cap m.length i m own rfl hil (by omega) hbs hgl p2 (by
    intro hlt
    by_cases hc : cap = i + 1
    · omega
    · simp [hc] at hp2; exact hp2.symm)
  obtain ⟨a2, cp2, rfl⟩ := own_form own3
  have yb1 := (hBW.block rb hlt).trans hb
  have L3 : Rf base (W2.setCell ⟨rb, 0, none⟩ (.slice a2 (m.take i ++ m.drop (i + 1)).length cp2)) rb (m.take i ++ m.drop (i + 1)) := by
    refine ⟨⟨a2, cp2, by rw [heap_set yb1]; simp, own_keep own3 fun j cur hc => Below.heap_setCell _ _ _ _ ?_⟩, hkb⟩
    rintro rfl
    rw [yb1] at hc
    simp at hc
  have F3 : RFr base w (W2.setCell ⟨rb, 0, none⟩ (.slice a2 (m.take i ++ m.drop (i + 1)).length cp2)) := by
    refine ⟨⟨hBW.os, hBW.tape, hBW.output, by have := hBW.size; simp [World.setCell]; omega, fun k hk => (Below.heap_setCell _ _ _ _ (by simp; omega)).trans (hBW.block k (by omega))⟩, fun k cur t hk h1 h2 => (Below.heap_setCell _ _ _ _ ?_).trans (hBW.block k (lt_of_heap hk))⟩
    rintro rfl
    rw [hb] at hk; simp at hk; exact h1 hk.2.symm
  have d1 : W1.cell? ⟨rb, 0, none⟩ = some (.slice (some ⟨g, 0, none⟩) m.length cap) := (World.cell?_of_block (a := ⟨rb, 0, none⟩) (hBW1.block rb hlt)).trans h0
  have z0 : W2.cell? ⟨rb, 0, none⟩ = some (.slice (some ⟨g, 0, none⟩) m.length cap) := (World.cell?_of_block (a := ⟨rb, 0, none⟩) (hBW.block rb hlt)).trans h0
  have zf : W2.frozen? ⟨rb, 0, none⟩ = false := frozen_of yb1 0
  have dx : (w.alloc (.cells #[] 73)).cell? ⟨rb, 0, none⟩ = some (.slice (some ⟨g, 0, none⟩) m.length cap) := (World.cell?_alloc_past _ _ _ hlt).trans h0
  have HL3 := hide L3
  have HF3 := hide F3
  clear L3 F3 yb1 own3 hBW hBW1 hfresh own h hi hb hgg hcs htk hf0 hp
  generalize hmm : m.take i ++ m.drop (i + 1) = mm at *
  clear hmm
  generalize mm.length = m2 at *
  generalize m.length = ml at *
  go_enter Try.func21, Try.ntmps21
  go_wp2_with fail
  refine (unhide HF).mono ?_
  rintro e w1 ⟨rfl, rfl⟩
  clear HF
  go_wp2_with fail
  generalize hK1 : i + 1 = K1 at *
  have HK1 := hide hK1
  have e1 : (i : Int) + 1 = (K1 : Int) := by omega
  have e2 : IntKind.i64.wrap ((i : Int) + 1) = (K1 : Int) := by rw [e1, IntKind.wrap_i64]; omega
  have e3 : IntKind.i64.wrap (K1 : Int) = (K1 : Int) := by rw [IntKind.wrap_i64]; omega
  have n0 : (i : Int) ≤ (cap : Int) := by omega
  have n2 : (0 : Int) ≤ (K1 : Int) := by omega
  have n3 : (K1 : Int) ≤ (ml : Int) := by omega
  have n4 : (ml : Int) ≤ (cap : Int) := by omega
  clear hK1 c1
  by_cases hlc : cap = K1
  · rw [if_pos hlc] at hp2
    simp only [Option.some.injEq] at hp2
    subst hp2
    obtain rfl : ml = K1 := by omega
    subst hlc
    simp only [Nat.sub_self] at r2
    go_region_law (first
        | (refine step_append_eq (by rfl) _ _ 68 (by rfl) 68 (by rfl) _ _ (by rfl) (by rfl) _ _ r1 ?_)
        | (refine step_append_eq (by rfl) _ _ 68 (by rfl) 68 (by rfl) _ _ (by rfl) (by rfl) _ _ r2 ?_))
    all_goals
      go_wp2_with fail
      go_ret2
      exact ⟨rfl, unhide HL3, unhide HF3⟩
  · rw [if_neg hlc] at hp2
    simp only [Option.some.injEq] at hp2
    subst hp2
    have hlc2 : ¬ K1 = cap := fun e => hlc e.symm
    go_region_law (first
        | (refine step_append_eq (by rfl) _ _ 68 (by rfl) 68 (by rfl) _ _ (by rfl) (by rfl) _ _ r1 ?_)
        | (refine step_append_eq (by rfl) _ _ 68 (by rfl) 68 (by rfl) _ _ (by rfl) (by rfl) _ _ r2 ?_))
    all_goals
      go_wp2_with fail
      go_ret2
      exact ⟨rfl, unhide HL3, unhide HF3⟩
end Go.Proofs.Ytbmcnfdciogmjaa
