/-
  The document's table: Keys, by insertion.
-/
import Derived.Test.YtbmcnfdciogmjaaRefX
import Derived.Laws.Cover1
import Derived.Sort.Walk0
namespace Go.Proofs.Ytbmcnfdciogmjaa
open Go.RowKit Go.Sort
attribute [local go_sem ↓] Go.wp_at_zero Go.wp_at_succ

abbrev strs (l : List ByteArray) : List Value := l.map Value.string
/-- In order. -/
def Srt (l : List ByteArray) : Prop := l.Pairwise fun a b => kb a ≤ kb b
theorem srt_in {P Q : List ByteArray} {x : ByteArray} (h : Srt (P ++ Q)) (hQ : ∀ z ∈ Q, kb x ≤ kb z) (hP : ∀ z ∈ P, kb z ≤ kb x) : Srt (P ++ x :: Q) := by
  unfold Srt at *
  rw [List.pairwise_append] at h ⊢
  obtain ⟨h1, h2, h3⟩ := h
  refine ⟨h1, List.pairwise_cons.2 ⟨hQ, h2⟩, fun a ha b hb => ?_⟩
  rcases List.mem_cons.1 hb with rfl | hb
  · exact hP a ha
  · exact h3 a ha b hb
theorem srt_last {P : List ByteArray} {y x : ByteArray} (h : Srt (P ++ [y])) (hy : kb y ≤ kb x) : ∀ z ∈ P ++ [y], kb z ≤ kb x := by
  unfold Srt at h
  rw [List.pairwise_append] at h
  intro z hz
  rcases List.mem_append.1 hz with hz | hz
  · exact List.le_trans (h.2.2 z hz y (by simp)) hy
  · simp at hz; subst hz; exact hy
theorem srt_sub {P Q : List ByteArray} (h : Srt (P ++ Q)) : Srt P := (List.pairwise_append.1 h).1
/-- In order, and of the table's keys: just what Keys answers. -/
theorem srt_ordered {m : Pairs} {S : List ByteArray} (h : Srt S) (hp : S.Perm (m.map (·.1))) : S = (ordered m).map ofB := by
  have e : ordered m = (S.map kb) := by
    unfold ordered
    refine List.Perm.eq_of_pairwise (le := fun x y => leB x y = true) ?_ (List.pairwise_mergeSort leB_trans leB_total _) ?_ ?_
    · intro a b _ _ h1 h2
      simp only [leB, decide_eq_true_eq] at h1 h2
      exact List.le_antisymm h1 h2
    · rw [List.pairwise_map]
      exact h.imp fun h => by simpa [leB] using h
    · refine (List.mergeSort_perm _ _).trans ?_
      have := (hp.map kb).symm
      rw [List.map_map] at this
      exact this
  rw [e, List.map_map]
  conv => lhs; rw [← List.map_id S]
  apply List.map_congr_left
  intro k _
  simp [ofB, kb]
theorem less_of {a b : ByteArray} (h : ¬ kb b ≤ kb a) : Op.bytesLess a.toList b.toList = true := by
  rw [bytesLess_eq, ByteArray.toList_eq, ByteArray.toList_eq]; exact decide_eq_true (List.not_le.1 h)
theorem less_not {a b : ByteArray} (h : kb b ≤ kb a) : Op.bytesLess a.toList b.toList = false := by
  rw [bytesLess_eq, ByteArray.toList_eq, ByteArray.toList_eq]; exact decide_eq_false (List.not_lt.2 h)
theorem own_set1 {W : World} {base g n cap : Nat} {xs : List Value} {i : Nat} (h : W.ownsRow base 9 1 (.slice (some ⟨g, 0, none⟩) n cap) n xs) (v : Value) : (W.setCell ⟨g, i, none⟩ v).ownsRow base 9 1 (.slice (some ⟨g, 0, none⟩) n cap) n (xs.set i v) := by
  obtain ⟨h0, ⟨e0, _⟩ | ⟨g', cap', cur, e0, hgb, hgg, hcap, hcm, hcs, htk⟩⟩ := h
  · simp at e0
  simp only [Value.slice.injEq, Option.some.injEq, Addr.mk.injEq] at e0
  obtain ⟨⟨rfl, -, -⟩, -, rfl⟩ := e0
  refine ⟨by simpa using h0, .inr ⟨g, cap, _, rfl, hgb, heap_set hgg _ _, hcap, hcm, by simpa using hcs, ?_⟩⟩
  rw [Array.toList_setIfInBounds, List.take_set, htk]
theorem own_frz {W : World} {base g n cap m : Nat} {xs : List Value} (h : W.ownsRow base 9 1 (.slice (some ⟨g, 0, none⟩) n cap) m xs) : ∀ i, W.frozen? ⟨g, i, none⟩ = false := by
  obtain ⟨h0, ⟨e0, _⟩ | ⟨g', cap', cur, e0, hgb, hgg, _⟩⟩ := h
  · simp at e0
  simp only [Value.slice.injEq, Option.some.injEq, Addr.mk.injEq] at e0
  obtain ⟨⟨rfl, -, -⟩, -, rfl⟩ := e0
  exact frozen_of hgg
theorem swap_strs (P Q : List ByteArray) (y x : ByteArray) : ((strs (P ++ y :: x :: Q)).set P.length (.string x)).set (P.length + 1) (.string y) = strs (P ++ x :: y :: Q) := by
  unfold strs
  rw [List.map_append, List.map_append, List.set_append_right _ _ (by simp), List.set_append_right _ _ (by simp)]
  simp

set_option maxRecDepth 100000 in
set_option maxHeartbeats 4000000 in
theorem rkeys_any (base rb : Nat) (m : Pairs) (w : World) (h : Rf base w rb m) (hm : m.length ≤ 64) :
    Calls Try.prog 26 #[.pointer (some ⟨rb, 0, none⟩)] w fun e w' => ∃ a cap, e = .returned (.slice a m.length cap) ∧ RowO w' a ((ordered m).map ofB) ∧ Below w.heap.size w w' := by
  obtain ⟨i9, hi9, hz0, hz1, hz2⟩ := info_parts info9
  obtain ⟨a, cap, h0, hf, hc⟩ := h.cell0
  have hlt : rb < w.heap.size := by obtain ⟨_, _, q, _⟩ := h.hb; exact lt_of_heap q
  have HA := hide (fun (W : World) (hW : Below w.heap.size w W) => (cell_same (hW.block rb hlt) 0).trans h0)
  have HC := hide hc
  have HH := hide h
  clear h hf hc
  generalize hml : m.length = ml at *
  replace hml := hide hml
  go_enter Try.func26, Try.ntmps26
  go_wp2_with fail
  clear h0
  go_loopw [3, 4] (fun ov iv wr => ∃ (i M : Nat) (S : List ByteArray) (ga : Option Addr) (gc : Nat), i ≤ ml ∧ M ≤ i ∧ iv = .int .i64 (i : Int) ∧ ov = .slice ga M gc ∧ Hid (S.length = M) ∧ Hid (Srt S) ∧ Hid (S.Perm ((m.take i).map (·.1))) ∧ Hid (wr.ownsRow w.heap.size 9 1 (.slice ga M gc) M (strs S)) ∧ Hid (Below w.heap.size w wr)) (fun _ iv _ => ml - (intOf iv).toNat)
  case atStart => exact ⟨0, 0, [], none, 0, by omega, by omega, rfl, rfl, hide rfl, hide List.Pairwise.nil, hide (by simp), hide (World.ownsRow_nil _ _ _ _), hide (Below.refl _ _)⟩
  case round =>
    obtain ⟨i, M, S, ga, gc, hi, hMi, rfl, rfl, hM, hS, hPm, hO, hB⟩ := hrel
    have b1 := unhide HA wr (unhide hB)
    by_cases hil : i < ml
    · have i0 : (0 : Int) ≤ (i : Int) := by omega
      have i1 : (i : Int) < (ml : Int) := by omega
      obtain ⟨⟨x, v⟩, hx⟩ : ∃ p, m[i]? = some p := ⟨_, List.getElem?_eq_getElem (by rw [unhide hml]; exact hil)⟩
      obtain ⟨g, rfl, c0, _⟩ := unhide HC i x v hx
      have c0w : wr.cell? ⟨g, i * 2, none⟩ = some (.string x) := (cell_same ((unhide hB).block g (lt_of_cell c0)) _).trans c0
      have hsz : w.heap.size ≤ wr.heap.size := (unhide hB).size
      have own2 := own_keep (W' := wr.alloc (.cells #[.string x] 9)) (unhide hO) (fun k cur hc => Below.heap_alloc wr _ _ (lt_of_heap hc))
      have HO := hide own2
      have hPm2 := hide (show (S ++ [x]).Perm ((m.take (i + 1)).map (·.1)) by
        rw [List.take_add_one, hx]
        simpa using (unhide hPm).append_right [x])
      have P1 := hide (cell_one_new wr (.string x) 9)
      have P2 : Hid (∀ u ∈ [Value.string x], u.oneCell' = true) := hide (by intro u hu; simp at hu; subst hu; rfl)
      have P3 : Hid (M + 1 ≤ maxLen) := hide (by unfold maxLen; omega)
      have P4 : Hid ((M + 1) * 16 ≤ 140737488355328) := hide (by omega)
      have P5 : Hid (w.heap.size ≤ (wr.alloc (.cells #[.string x] 9)).heap.size) := hide (by simp; omega)
      clear hx hO c0 hPm
      go_wp2_with (first
        | (at_builtin; refine wpList_append_own_at _ rfl _ _ 35 rfl w.heap.size 9 i9 (.string ByteArray.empty) 1 16 Try.underlying35 hi9 hz0 hz1 hz2 rfl (by decide) _ _ _ rfl own2 ⟨wr.heap.size, 0, none⟩ 1 1 [.string x] rfl rfl (unhide P1) (unhide P2) (unhide P3) (unhide P4) (unhide P5) ?_))
      intro v' w7 own7 hgr _ _
      have hB7 : Below w.heap.size w w7 := below_grown ((unhide hB).alloc hsz _) (unhide HO) hgr (by simp; omega)
      obtain ⟨gg, gcc, rfl⟩ : ∃ gg gcc, v' = .slice (some ⟨gg, 0, none⟩) (M + 1) gcc := by
        obtain ⟨-, ⟨rfl, hz⟩ | ⟨g', cap, cur, rfl, _⟩⟩ := own7
        · omega
        · exact ⟨g', cap, rfl⟩
      have hgg : w.heap.size ≤ gg := by
        obtain ⟨-, ⟨e, hz⟩ | ⟨g', cap, cur, e, hb, _⟩⟩ := own7
        · simp at e
        · simp at e; omega
      have HO7 := hide (show w7.ownsRow w.heap.size 9 1 (.slice (some ⟨gg, 0, none⟩) (M + 1) gcc) (M + 1) (strs (S ++ [x])) by simpa [strs] using own7)
      replace hB7 := hide hB7
      clear own7 hgr own2 HO hB b1 c0w
      go_wp2_with fail
      have hMe : M = i := by
        have := (unhide hPm2).length_eq
        rw [List.length_append, unhide hM, List.length_map, List.length_take, unhide hml] at this
        simp at this
        omega
      replace hMe := hide hMe
      have hM65 : M ≤ 64 := by omega
      go_loopw [5] (fun kv wr2 => ∃ (k : Nat) (P Q : List ByteArray), k ≤ M ∧ kv = .int .i64 (k : Int) ∧ Hid (P.length = k) ∧ Hid (P ++ Q = S) ∧ Hid (∀ z ∈ Q, kb x ≤ kb z) ∧ Hid (wr2.ownsRow w.heap.size 9 1 (.slice (some ⟨gg, 0, none⟩) (M + 1) gcc) (M + 1) (strs (P ++ x :: Q))) ∧ Hid (Below w.heap.size w wr2)) (fun kv _ => (intOf kv).toNat)
      case atStart => exact ⟨i, S, [], by have := unhide hMe; omega, rfl, hide (by rw [unhide hM]; exact unhide hMe), hide (by simp), hide (by simp), HO7, hB7⟩
      case round =>
        obtain ⟨k, P, Q, hk, rfl, hP, hPQ, hQ, hO, hB⟩ := hrel
        clear HO7 hB7
        have NEXT : Hid ((∀ z ∈ P, kb z ≤ kb x) → Srt (P ++ x :: Q) ∧ (P ++ x :: Q).Perm ((m.take (i + 1)).map (·.1)) ∧ (P ++ x :: Q).length = M + 1) := hide (fun hall => by
          have hSP := unhide hPQ
          refine ⟨srt_in (by rw [hSP]; exact unhide hS) (unhide hQ) hall, ?_, ?_⟩
          · refine List.Perm.trans ?_ (unhide hPm2)
            refine List.perm_middle.trans ?_
            rw [hSP]
            exact (List.perm_append_singleton _ _).symm
          · rw [← unhide hM, ← hSP]; simp; omega)
        by_cases hk0 : k = 0
        · have p4 : (0 < k) = False := by simp; omega
          have p5 : ((0 : Int) < (k : Int)) = False := by simp; omega
          have hall := unhide NEXT (by
            have := unhide hP
            rw [hk0] at this
            rw [List.length_eq_zero_iff.1 this]; simp)
          replace hall := hide hall
          clear NEXT hk0
          go_wp2_with fail
          go_quiet (fail)
          go_wp2_with fail
          refine ⟨⟨i + 1, M + 1, P ++ x :: Q, _, gcc, by omega, by omega, rfl, rfl, hide (unhide hall).2.2, hide (unhide hall).1, hide (unhide hall).2.1, hide (own_keep (unhide hO) fun _ _ _ => rfl), hide (below_dn (unhide hB) _)⟩, by simp [intOf]; omega⟩
        · obtain ⟨q, hq⟩ : ∃ q, q + 1 = k := ⟨k - 1, by omega⟩
          obtain ⟨P', y, hPy⟩ : ∃ P' y, P = P' ++ [y] := ⟨P.dropLast, P.getLast (by intro e; rw [e] at hP; have := unhide hP; simp at this; omega), (List.dropLast_concat_getLast _).symm⟩
          have hP'l : P'.length = q := by have := unhide hP; rw [hPy] at this; simp at this; omega
          have hcells := own_cells (unhide hO)
          have cy : wr.cell? ⟨gg, q, none⟩ = some (.string y) := hcells q _ (by rw [hPy, ← hP'l]; simp [strs])
          have cx : wr.cell? ⟨gg, k, none⟩ = some (.string x) := hcells k _ (by rw [hPy, ← hq, ← hP'l]; simp [strs])
          have cf := own_frz (unhide hO)
          have p0 : (0 : Int) < (k : Int) := by omega
          have p4 : (0 < k) = True := by simp; omega
          have p5 : ((0 : Int) < (k : Int)) = True := by simp; omega
          have e1 : wrap64 ((k : Int) - 1) = (q : Int) := by simp only [wrap64]; omega
          have e2 : IntKind.i64.wrap ((k : Int) - 1) = (q : Int) := by rw [IntKind.wrap_i64]; omega
          have e3 : (k : Int) - 1 = (q : Int) := by omega
          have m0 : (0 : Int) ≤ (k : Int) := by omega
          have m1 : (k : Int) < (M : Int) + 1 := by omega
          have m2 : (0 : Int) ≤ (q : Int) := by omega
          have m3 : (q : Int) < (M : Int) + 1 := by omega
          by_cases hyx : kb y ≤ kb x
          · have hall := hide (unhide NEXT (by
              rw [hPy]
              exact srt_last (P := P') (by rw [← hPy]; exact srt_sub (Q := Q) (by rw [unhide hPQ]; exact unhide hS)) hyx))
            by_cases hxy : kb x ≤ kb y
            · have hexy : y = x := kb_inj (List.le_antisymm hyx hxy)
              subst hexy
              have g1 := less_not (a := y) (b := y) hyx
              have hq2 := hide hq
              clear NEXT hcells hPy hP'l hq hk0 hyx hxy
              go_wp2_with fail
              go_quiet (fail)
              go_wp2_with fail
              refine ⟨⟨i + 1, M + 1, P ++ y :: Q, _, gcc, by omega, by omega, rfl, rfl, hide (unhide hall).2.2, hide (unhide hall).1, hide (unhide hall).2.1, hide (own_keep (unhide hO) fun _ _ _ => rfl), hide (below_dn (unhide hB) _)⟩, by simp [intOf]; omega⟩
            · have g1 := less_of hxy
              have hq2 := hide hq
              clear NEXT hcells hPy hP'l hq hk0 hyx hxy
              go_wp2_with fail
              go_quiet (fail)
              go_wp2_with fail
              refine ⟨⟨i + 1, M + 1, P ++ x :: Q, _, gcc, by omega, by omega, rfl, rfl, hide (unhide hall).2.2, hide (unhide hall).1, hide (unhide hall).2.1, hide (own_keep (unhide hO) fun _ _ _ => rfl), hide (below_dn (unhide hB) _)⟩, by simp [intOf]; omega⟩
          · have hxy : kb x ≤ kb y := List.le_of_lt (List.not_le.1 hyx)
            have g1 := less_not hxy
            have g2 : (y.toList == x.toList) = false := str_ne (by rintro rfl; exact hyx hxy)
            have FIN := hide (fun n => show ((((wr.drewN n).setCell ⟨gg, q, none⟩ (.string x)).setCell ⟨gg, k, none⟩ (.string y)).ownsRow w.heap.size 9 1 (.slice (some ⟨gg, 0, none⟩) (M + 1) gcc) (M + 1) (strs (P' ++ x :: y :: Q))) ∧ Below w.heap.size w (((wr.drewN n).setCell ⟨gg, q, none⟩ (.string x)).setCell ⟨gg, k, none⟩ (.string y)) by
              have o1 : (wr.drewN n).ownsRow w.heap.size 9 1 (.slice (some ⟨gg, 0, none⟩) (M + 1) gcc) (M + 1) (strs (P' ++ y :: x :: Q)) := by
                have := own_keep (W' := wr.drewN n) (unhide hO) fun _ _ _ => rfl
                rw [hPy] at this; simpa using this
              have o2 := own_set1 (i := k) (own_set1 (i := q) o1 (.string x)) (.string y)
              rw [← hq, ← hP'l, swap_strs] at o2
              rw [← hq, ← hP'l]
              exact ⟨o2, ((below_dn (unhide hB) n).setCell (p := ⟨gg, P'.length, none⟩) hgg _).setCell (p := ⟨gg, P'.length + 1, none⟩) hgg _⟩)
            have HPQ2 := hide (show P' ++ y :: Q = S by rw [← unhide hPQ, hPy]; simp)
            have HQ2 := hide (show ∀ z ∈ y :: Q, kb x ≤ kb z by
              intro z hz
              rcases List.mem_cons.1 hz with rfl | hz
              · exact hxy
              · exact unhide hQ z hz)
            replace hP'l := hide hP'l
            have hq2 := hide hq
            have hqk : ¬ q = k := by omega
            have hkq : ¬ k = q := by omega
            clear NEXT hcells hPy hq hk0 hyx hxy hO hB hPQ hQ hP
            go_wp2_with fail
            go_quiet (fail)
            go_wp2_with fail
            have FIN2 := hide (unhide FIN (nq + 1))
            clear FIN
            go_region
            all_goals
              go_wp2_with fail
              have hq3 := unhide hq2
              refine ⟨⟨q, P', y :: Q, by omega, rfl, hP'l, HPQ2, HQ2, hide (unhide FIN2).1, hide (unhide FIN2).2⟩, by simp [intOf]; omega⟩
    · have i1 : ¬ (i : Int) < (ml : Int) := by omega
      obtain rfl : i = ml := by omega
      have hE := srt_ordered (m := m) (unhide hS) (by have := unhide hPm; rw [List.take_of_length_le (by rw [unhide hml]; exact Nat.le_refl _)] at this; exact this)
      have hMl : M = i := by
        have := (unhide hPm).length_eq
        rw [unhide hM] at this
        simp [unhide hml] at this
        omega
      have HE := hide hE
      replace hMl := hide hMl
      clear hE
      go_wp2_with fail
      go_ret
      refine ⟨ga, ⟨gc, by rw [← unhide hMl]; rfl⟩, ?_, unhide hB⟩
      rw [← unhide HE]
      intro k s hk
      have hl := (List.getElem?_eq_some_iff.1 hk).1
      obtain ⟨g, e1, e2⟩ : ∃ g, ga = some ⟨g, 0, none⟩ ∧ ∀ (j : Nat) (u : Value), (strs S)[j]? = some u → wr.cell? ⟨g, j, none⟩ = some u := by
        obtain ⟨hl2, ⟨e, hz⟩ | ⟨g', cap, cur, e, _⟩⟩ := id (unhide hO)
        · simp at e; rw [unhide hM] at hl; omega
        · simp only [Value.slice.injEq] at e
          obtain ⟨rfl, -, rfl⟩ := e
          exact ⟨g', rfl, own_cells (unhide hO)⟩
      have := e2 k (.string s) (by simp [strs, hk])
      exact ⟨g, 0, e1, lt_of_cell this, by rw [Nat.zero_add]; exact this⟩
end Go.Proofs.Ytbmcnfdciogmjaa
