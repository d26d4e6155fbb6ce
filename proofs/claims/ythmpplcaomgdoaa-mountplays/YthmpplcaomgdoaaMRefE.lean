/-
  The document's Bind that is done, Unbind, Down.
-/
import Derived.Test.YthmpplcaomgdoaaMRefD
namespace Go.Proofs.Ythmpplcaomgdoaa.Mt
open Go.RowKit
attribute [local go_sem ↓] Go.wp_at_zero Go.wp_at_succ
section
variable {B : Int} {t : T} {rs : List Rm} {base b : Nat} {w W : World}
set_option maxRecDepth 100000 in
set_option maxHeartbeats 1000000 in
theorem rbind_yes (h : RT t rs) (hw : Wf B t) (hR : Rs base w b rs) (hl : rs.length ≤ 100) (am an nd : Int) (hz : bindE t.es am an = 0) :
    Calls Try.prog 18 #[.pointer (some ⟨b, 0, none⟩), pv am an, I nd] w fun e w' => e = .returned (.tuple #[I (t.md + 1), I 0]) ∧ Rs base w' b (rs ++ [⟨am, an, nd, true⟩]) ∧ Fq base b w w' := by
  obtain ⟨V, hV, hs, hx, hb⟩ : ∃ V, w.alloc (.cells #[I am, I an] 29) = V ∧ V.heap.size = w.heap.size + 1 ∧ V.heap[w.heap.size]? = some (.cells #[I am, I an] 29) ∧ Below w.heap.size w V := ⟨_, rfl, by simp, putAll _ _ rfl, below_alloc _ _⟩
  obtain ⟨v0, v1⟩ := cells2 hx
  obtain ⟨z1, z2, z3⟩ := bindE_zero hz
  have hbase := hR.base_le
  have H1 := hide (ris_any base b rs am V (hR.below hb))
  have H2 := hide (over_any base b rs am an V (hR.below hb) (by omega))
  have H3 := hide (fun W (hB : Below V.heap.size V W) => rlist_any base b rs W ((hR.below hb).below hB) (by omega))
  have HR := hide (fun W (hB : Below V.heap.size V W) => (hR.below hb).below hB)
  have HO := hide (fun r (ho : Ov rs (lvAt am an) r) => h.over hw ho)
  rw [h.is hw, z1] at H1
  rw [h.list hw] at H3
  rw [z2] at HO
  have hlst : (lst t.es).length = 1 + t.es.length := by simp [lst]; omega
  have HLen := hide h.len
  have HB := hide hb
  have HX := hide hx
  obtain ⟨md1, hmd1⟩ : ∃ md1, md1 = t.md + 1 := ⟨_, rfl⟩
  rw [← hmd1] at HLen ⊢
  clear hR hb hx h hw z1 z2 hz hmd1
  unfold pv
  go_enter Try.func18, Try.ntmps18
  go_wp2_with fail
  refine (unhide H1).mono ?_
  rintro e w1 ⟨rfl, hw1⟩
  rw [hw1]
  clear hw1 H1
  go_wp2_with fail
  refine (unhide H2).mono ?_
  rintro e w2 ⟨⟨r, ho, rfl⟩, hB2⟩
  obtain rfl : r = -1 := by simpa using unhide HO r ho
  have H3' := hide (unhide H3 w2 hB2)
  have HB2 := hide hB2
  clear H3 HO ho v0 v1 hV hB2 H2
  go_wp2_with fail
  refine (unhide H3').mono ?_
  rintro e w3 ⟨v, rfl, own, hB3⟩
  obtain ⟨a0, cp0, rfl⟩ := own_form own
  have hBV := (unhide HB2).trans (hB3.mono (unhide HB2).size)
  have LX := unhide HR w3 hBV
  have qX := (hBV.block w.heap.size (by omega)).trans (unhide HX)
  have FX : Fq base b w w3 := Fq.of_below ((unhide HB).trans (hBV.mono (by omega))) hbase
  have q8 : ¬ (8 : Int) ≤ ((lst t.es).length : Int) := by omega
  obtain ⟨g, cap, c0, cf, _, _, _⟩ := LX.cells
  obtain ⟨a5, cap5, W5, hrun, d0, df, L5, F5⟩ := rpush ⟨am, an, nd, true⟩ (LX.below (W' := w3.drew) ⟨rfl, rfl, rfl, Nat.le_refl _, fun _ _ => rfl⟩) (by omega) (show w3.drew.cell? _ = _ from c0)
  obtain ⟨r0, r1⟩ := cells2 qX
  have r0d : w3.drew.cell? ⟨w.heap.size, 0, none⟩ = some (I am) := r0
  have r1d : w3.drew.cell? ⟨w.heap.size, 1, none⟩ = some (I an) := r1
  have c0d : w3.drew.cell? ⟨b, 0, none⟩ = _ := c0
  have c0a := cell_alloc c0 (.cells #[I am, I an, I nd, .bool true] 70)
  obtain ⟨g6, cap6, z0, _⟩ := L5.cells
  rw [List.length_append, List.length_cons, List.length_nil, Nat.zero_add] at z0
  have HL5 := hide L5
  have HF5 := hide ((FX.trans (Fq.of_below (w' := w3.drew) ⟨rfl, rfl, rfl, Nat.le_refl _, fun _ _ => rfl⟩ (by have := FX.size; omega))).trans F5)
  have el := unhide HLen
  have Hel : Hid ((rs.length : Int) = md1) := el
  have hmm : (rs.length : Int) ≤ 100 := by omega
  clear LX qX FX own hB3 hBV L5 F5 cf r0 r1 H3' HB2 HB HX HR HLen el c0
  generalize rs.length = m at *
  generalize (lst t.es).length = n at *
  go_wp2_with fail
  go_region_law (refine step_append_eq (by rfl) _ _ 71 (by rfl) 71 (by rfl) _ _ (by rfl) (by rfl) _ _ hrun ?_)
  all_goals
    clear hrun c0a c0d r0d r1d
    go_wp2_with fail
    go_ret2
    refine ⟨?_, unhide HL5, unhide HF5⟩
    rw [← unhide Hel]
    first
      | rfl
      | (simp; done)
      | (simp; omega)
/-- One of the mounts is gone. -/
theorem Rs.setLv (L : Rs base W b rs) {j : Nat} {p : Rm} (hp : rs[j]? = some p) : ∃ g cap, W.cell? ⟨b, 0, none⟩ = some (.slice (some ⟨g, 0, none⟩) rs.length cap) ∧ W.cell? ⟨g, j * 4 + 3, none⟩ = some (.bool p.lv) ∧ W.frozen? ⟨g, j * 4 + 3, none⟩ = false ∧
    Rs base (W.setCell ⟨g, j * 4 + 3, none⟩ (.bool false)) b (rs.set j { p with lv := false }) ∧ Fq base b W (W.setCell ⟨g, j * 4 + 3, none⟩ (.bool false)) := by
  obtain ⟨a, cap, h1, own⟩ := L.hb
  have own0 := own
  obtain ⟨hl0, ⟨e0, hz⟩ | ⟨g, cap', cur, e0, hgb, hgg, hcap, hcm, hcs, htk⟩⟩ := own
  · have := L.len; omega
  simp only [Value.slice.injEq] at e0
  obtain ⟨rfl, -, rfl⟩ := e0
  obtain ⟨_, _, _, r3⟩ := rrows_at rs j p hp
  have hj := (List.getElem?_eq_some_iff.1 hp).1
  have hbg : b ≠ g := by
    rintro rfl
    rw [h1] at hgg
    simp at hgg
  have hlen4 : (rowsOf rrow rs).length = rs.length * 4 := by rw [rowsOf_length rrow 4 rrow_length, Nat.mul_comm]
  have c3 : cur[j * 4 + 3]? = some (.bool p.lv) := by
    have hj2 := (List.getElem?_eq_some_iff.1 r3).1
    rw [← htk] at r3
    rw [List.getElem?_take_of_lt (by omega)] at r3
    simpa using r3
  have hset := heap_set hgg (j * 4 + 3) (.bool false)
  refine ⟨g, cap, by rw [cell_of h1]; rfl, by rw [cell_of hgg]; exact c3, frozen_of hgg _, ⟨⟨some ⟨g, 0, none⟩, cap, ?_, ?_, .inr ⟨g, cap, _, ?_, hgb, hset, ?_, hcm, by simpa using hcs, ?_⟩⟩, L.kb, by simpa using L.ne⟩, ?_⟩
  · rw [Below.heap_setCell _ _ _ _ hbg, List.length_set]; exact h1
  · rw [rowsOf_length rrow 4 rrow_length, List.length_set, Nat.mul_comm]
  · simp
  · simpa using hcap
  · rw [List.length_set, Array.toList_setIfInBounds, List.take_set, htk, show j * 4 + 3 = 4 * j + 3 by omega]
    exact rowsOf_set rrow 4 rrow_length rs j 3 p { p with lv := false } (.bool false) hp (by omega) rfl
  · refine ⟨rfl, rfl, rfl, by simp [World.setCell], fun k hk => Below.heap_setCell _ _ _ _ (by have := hgb; simp; omega), fun k o g1 g2 g3 => (Below.heap_setCell _ _ _ _ ?_).trans g1⟩
    rintro rfl
    rw [hgg] at g1
    exact g3 _ (Option.some.inj g1).symm
end
end Go.Proofs.Ythmpplcaomgdoaa.Mt
