/-
  The contract of Shrink: the keys that were used longest ago and are not pinned go, so many; the others stay.
-/
import Derived.Test.YtjcjibjagjiedaaOld
namespace Go.Proofs.Ytjcjibjagjiedaa
open Go.RowKit Go.Shelf
attribute [local go_sem] Oper.semAt_some

/-- One entry more: it goes, or it stays. -/
def stepS (n : Int) (q : List ByteArray × Ents) (p : ByteArray × Int) : List ByteArray × Ents := if (q.1.length : Int) < n ∧ ¬ 0 < p.2 then (q.1 ++ [p.1], q.2) else (q.1, q.2 ++ [p])
/-- What goes, and what stays. -/
def shr (n : Int) (es : Ents) : List ByteArray × Ents := es.foldl (stepS n) ([], [])
theorem shr_succ {n : Int} {es : Ents} {i : Nat} {p : ByteArray × Int} (h : es[i]? = some p) : shr n (es.take (i + 1)) = stepS n (shr n (es.take i)) p := by
  rw [shr, List.take_add_one, h, List.foldl_append]; rfl
theorem shr_len (n : Int) (es : Ents) : (shr n es).1.length + (shr n es).2.length = es.length := by
  suffices h : ∀ (es : Ents) (q : List ByteArray × Ents), (es.foldl (stepS n) q).1.length + (es.foldl (stepS n) q).2.length = q.1.length + q.2.length + es.length by
    have := h es ([], []); simpa [shr] using this
  intro es
  induction es with
  | nil => intro q; simp
  | cons p l ih =>
    intro q
    rw [List.foldl_cons, ih]
    unfold stepS
    split <;> simp <;> omega
/-- What lies while Shrink goes over the entries. -/
structure SJ (w W : World) (r : Loop) (h b : Nat) (es : Ents) (n : Int) (i : Nat) : Prop where
  f : Fl w W r h (h + 5) (h + 4) (h + 3) b
  k0 : W.heap[h]? = some (.cells #[.int .i64 n] 3)
  ov : ∃ v, W.heap[h + 1]? = some (.cells #[v] 30) ∧ W.ownsRow h 9 1 v (shr n (es.take i)).1.length (strs (shr n (es.take i)).1)
  le : ∃ v, W.heap[h + 2]? = some (.cells #[v] 45) ∧ W.ownsRow h 54 2 v (shr n (es.take i)).2.length (rowsOf row (shr n (es.take i)).2)
theorem SJ.put {w W : World} {r : Loop} {h b : Nat} {es : Ents} {n : Int} {i : Nat} (J : SJ w W r h b es n i) (r' : Loop) : SJ w (W.putObj (h + 5) (.loop r')) r' h b es n i := by
  obtain ⟨v, k1, own1⟩ := J.ov
  obtain ⟨v2, k2, own2⟩ := J.le
  exact ⟨J.f.put r' (by omega), put_other J.f.l J.k0 (by simp), ⟨v, put_other J.f.l k1 (by simp), own_put own1 J.f.l⟩, ⟨v2, put_other J.f.l k2 (by simp), own_put own2 J.f.l⟩⟩
theorem SJ.drew {w W : World} {r : Loop} {h b : Nat} {es : Ents} {n : Int} {i : Nat} (J : SJ w W r h b es n i) : SJ w W.drew r h b es n i := by
  obtain ⟨v, k1, own1⟩ := J.ov
  obtain ⟨v2, k2, own2⟩ := J.le
  exact ⟨⟨J.f.l, J.f.dd, J.f.xx, below_drew J.f.be⟩, J.k0, ⟨v, k1, own_keep own1 fun _ _ _ => rfl⟩, ⟨v2, k2, own_keep own2 fun _ _ _ => rfl⟩⟩

set_option maxRecDepth 100000 in
set_option maxHeartbeats 1000000 in
theorem shrink_in (base b : Nat) (mo n : Int) (es : Ents) (w : World) (hG : Ls base w b mo es) (hes : es.length ≤ 1000) :
    CallsIn Fence.wide 4 Try.prog 12 #[.pointer (some ⟨b, 0, none⟩), .int .i64 n] w fun e w' => ∃ v, e = .returned v ∧ w'.ownsRow w.heap.size 9 1 v (shr n es).1.length (strs (shr n es).1) ∧ Ls base w' b mo (shr n es).2 ∧ Fr base b w w' := by
  have hro : Fence.wide.round = none := rfl
  obtain ⟨a, cap, a0, a1, af, own⟩ := hG.cells
  obtain ⟨g, ha⟩ := own_addr own
  have hbl := hG.lt
  have hbs := hG.base_le
  have HG := hide hG
  clear hG a0 af own
  refine callsIn_of_wp_marks Try.func12 rfl trivial ?_ hro
  simp only [Try.ntmps12, List.size_toArray, List.length_cons, List.length_nil, Nat.reduceAdd, Nat.reduceSub, Array.replicate_succ, Array.replicate_zero, List.push_toArray, List.append_toArray, List.nil_append, List.cons_append]
  gi_wp2_with fail
  refine ⟨trivial, (callsIn_wide.2 (byUse_any b _)).mono ?_⟩
  rintro e w' ⟨rfl, rfl⟩
  gi_wp2_with fail
  obtain ⟨V, hV, hsz, g0, g1, g2, g3, hB⟩ := four0 w (.cells #[.int .i64 n] 3) (.cells #[.slice none 0 0] 30) (.cells #[.slice none 0 0] 45) (.cells #[.pointer (some ⟨b, 0, none⟩)] 22)
  rw [hV]
  clear hV
  generalize hh : w.heap.size = h at *
  have HH : Hid (w.heap.size = h) := hh
  refine wpIn_range_own hro (by omega) (gf := 36) (lb := #[.pointer (some ⟨h + 3, 0, none⟩)]) rfl trivial (enters_of Try.func36 (by kernel_rfl) rfl) ?_
  intro r hF hst hpe htm hps has hbo
  obtain ⟨L1, D1, hB2⟩ := setup V r
  rw [hsz] at L1 D1 ⊢
  generalize ((V.alloc (.deferred (some []))).alloc (.loop r)) = W1 at L1 D1 hB2 ⊢
  have J0 : SJ w W1 r h b es n 0 := ⟨⟨L1, D1, (hB2.block _ (by omega)).trans g3, hB.trans (hB2.mono (by omega))⟩, (hB2.block _ (by omega)).trans g0, ⟨_, (hB2.block _ (by omega)).trans g1, World.ownsRow_nil _ _ _ _⟩, ⟨_, (hB2.block _ (by omega)).trans g2, World.ownsRow_nil _ _ _ _⟩⟩
  clear L1 D1 hB2 g0 g1 g2 g3 hB
  refine (iter_go (h + 5) (h + 3) b g es.length cap a W1 (fun i W => SJ w W r h b es n i) (fun _ => False) (by omega) J0 ha (fun i W' J => ⟨by rw [cell_of J.f.xx]; rfl, (World.cell?_of_block (J.f.be.block b (by omega))).trans a1⟩) ?_).mono ?_
  · intro i W2 J him
    refine yield_own hF hst hpe htm hps has hbo rfl J.f.l ?_
    clear htm hps has hbo hst hpe J0
    intro rb
    gi_wp2
    refine ⟨J.f.l, ?_⟩
    have J4 := J.put rb
    generalize W2.putObj (h + 5) (.loop rb) = W4 at *
    clear J
    have hs4 : h + 5 < W4.heap.size := lt_of_heap J4.f.l
    have G4 : Ls base W4 b mo es := (unhide HG).below (by rw [unhide HH]; exact J4.f.be)
    obtain ⟨⟨xk, xv⟩, hx⟩ : ∃ x, es[i]? = some x := ⟨_, List.getElem?_eq_getElem him⟩
    obtain ⟨a', cap', _, a1', _, ownw⟩ := G4.cells
    have hbb := (World.cell?_of_block (a := ⟨b, 1, none⟩) (J4.f.be.block b (by omega))).trans a1
    rw [a1'] at hbb
    simp only [Option.some.injEq, Value.slice.injEq] at hbb
    obtain ⟨rfl, -, rfl⟩ := hbb
    obtain rfl : a' = some ⟨g, 0, none⟩ := by
      rcases ha with ⟨_, hz, _⟩ | e
      · omega
      · exact e
    obtain ⟨g', eg, c0, c1, cf, _⟩ := own_at ownw hx rfl
    simp only [Option.some.injEq, Addr.mk.injEq, and_true] at eg
    subst eg
    have hsl := shr_len n (es.take i)
    have htl := List.length_take_le i es
    have hss := shr_succ (n := n) hx
    obtain ⟨v, k1, own1⟩ := J4.ov
    obtain ⟨v2, k2, own2⟩ := J4.le
    have n0 : W4.cell? ⟨h, 0, none⟩ = some (.int .i64 n) := by rw [cell_of J4.k0]; rfl
    obtain ⟨va, vc, rfl⟩ := own_form own1
    have e0 : W4.cell? ⟨h + 1, 0, none⟩ = some (.slice va (shr n (es.take i)).1.length vc) := by rw [cell_of k1]; rfl
    have HP := hide (pinned_any g (i * 2) xv W4 c1)
    clear G4 hx a1 a1' ha HG ownw cf
    by_cases hc : ((shr n (es.take i)).1.length : Int) < n
    · by_cases hv : 0 < xv
      · rw [show decide (0 < xv) = true by simpa using hv] at HP
        rw [stepS, if_neg (by simp [hv])] at hss
        gi_wp2_with fail
        refine ⟨trivial, (callsIn_wide.2 (unhide HP)).mono ?_⟩
        rintro e W6 ⟨rfl, rfl⟩
        obtain ⟨i0, hi, hz0, hz1, hz2⟩ := info_parts info54
        have Jd := J4.drew
        have d0 : W6.drew.cell? ⟨g, i * 2, none⟩ = some (.string xk) := c0
        have d1 : W6.drew.cell? ⟨g, i * 2 + 1, none⟩ = some (.int .i64 xv) := c1
        have k2d : W6.drew.heap[h + 2]? = some (.cells #[v2] 45) := k2
        have k1d : W6.drew.heap[h + 1]? = some (.cells #[.slice va (shr n (es.take i)).1.length vc] 30) := k1
        have own2d : W6.drew.ownsRow h 54 2 v2 _ _ := own_keep own2 fun _ _ _ => rfl
        have own1d : W6.drew.ownsRow h 9 1 (.slice va (shr n (es.take i)).1.length vc) _ _ := own_keep own1 fun _ _ _ => rfl
        have e2 : W6.drew.cell? ⟨h + 2, 0, none⟩ = some v2 := by rw [cell_of k2d]; rfl
        have e2x : (W6.drew.alloc (.cells #[.string xk, .int .i64 xv] 54)).cell? ⟨h + 2, 0, none⟩ = some v2 := (World.cell?_alloc_past _ _ _ (lt_of_heap k2d)).trans e2
        have own5 := own_keep (W' := W6.drew.alloc (.cells #[.string xk, .int .i64 xv] 54)) own2d (fun k cur hc => Below.heap_alloc _ _ _ (lt_of_heap hc))
        obtain ⟨v', W5, hrun, own7, hgr, -, -⟩ := run_append_own_at (P := Try.prog) (W6.drew.alloc (.cells #[.string xk, .int .i64 xv] 54)) h 45 45 54 i0 _ 2 24 Try.underlying45 hi hz0 hz1 hz2 rfl (by decide) v2 _ _ own5 ⟨W6.drew.heap.size, 0, none⟩ 1 1 (row (xk, xv)) rfl (cells_new W6.drew (row (xk, xv)) 54) (by intro u hu; simp [row] at hu; rcases hu with rfl | rfl <;> rfl) (by unfold maxLen; omega) (by omega) (by simp; omega)
        obtain ⟨F5, H5, k5, own8⟩ := box_more Jd.f k2d own2d hgr own7 (by omega) (by decide) (by decide) (by decide)
        have k25 : (W5.setCell ⟨h + 2, 0, none⟩ v').heap[h + 1]? = some (.cells #[.slice va (shr n (es.take i)).1.length vc] 30) := (Below.heap_setCell _ _ _ _ (by simp)).trans (grown_keep own2d hgr k1d (by simp))
        have k05 : (W5.setCell ⟨h + 2, 0, none⟩ v').heap[h]? = some (.cells #[.int .i64 n] 3) := (Below.heap_setCell _ _ _ _ (by simp)).trans (grown_keep own2d hgr Jd.k0 (by simp))
        have own25 : (W5.setCell ⟨h + 2, 0, none⟩ v').ownsRow h 9 1 (.slice va (shr n (es.take i)).1.length vc) _ _ := own_keep own1d fun k cur hc => by
          rw [Below.heap_setCell _ _ _ _ (by rintro rfl; rw [k2d] at hc; simp at hc), grown_keep own2d hgr hc (by simp), hc]
        have J5 : SJ w (W5.setCell ⟨h + 2, 0, none⟩ v') rb h b es n (i + 1) := by
          refine ⟨F5, k05, ⟨_, k25, ?_⟩, ⟨v', k5, ?_⟩⟩
          · rw [hss]; exact own25
          · rw [hss, List.length_append, rowsOf_append]; exact own8
        have ef5 : W5.frozen? ⟨h + 2, 0, none⟩ = false := frozen_of H5 0
        have ec5 : W5.cell? ⟨h + 2, 0, none⟩ = some v2 := by rw [cell_of H5]; rfl
        obtain ⟨q', cp, rfl⟩ := own_form own7
        generalize (shr n (es.take i)).2.length + 1 = m at *
        have J5l := J5.f.l
        have FIN := hide (J5.put r)
        clear J4 Jd J5 k1 own1 k2 own2 own5 own7 hgr F5 H5 k5 own8 k25 k05 own25 k2d k1d own2d own1d hss hsl htl c0 c1
        gi_wp2_with fail
        refine wpIn_region_round (by kernel_rfl) (by kernel_rfl) ?_
        generalize W6.drew = X at *
        refine wpAnyIn_take (i := 1) (v := ?_) rfl rfl (by kernel_rfl) (by kernel_rfl) (by kernel_rfl) (fun _ _ _ h => h) ⟨Or.inl ⟨by rfl, ?hy⟩, fun _ => rfl⟩ ?_
        case hy => intro w; go_simp; all_goals with_reducible rfl
        refine wpAnyIn_take (i := 2) (v := ?_) rfl rfl (by kernel_rfl) (by kernel_rfl) (by kernel_rfl) (fun _ _ _ h => h) ⟨Or.inl ⟨by rfl, ?hy⟩, fun _ => rfl⟩ ?_
        case hy => intro w; go_simp; all_goals with_reducible rfl
        refine wpAnyIn_ready (rs := [0, 3]) (by kernel_rfl) (by simp) ?_
        refine AllReadyIn.cons rfl (fun K hK => ?_) ?_
        · go_simp
          refine hK _ _ ?_
          clear hK K
          refine wpAnyIn_ready (rs := [3]) (by kernel_rfl) (by simp) ?_
          refine AllReadyIn.cons rfl (fun K hK => ?_) ?_
          · go_simp
            refine hK _ _ ?_
            clear hK K
            refine wpAnyIn_ready (rs := [4]) (by kernel_rfl) (by simp) ?_
            refine AllReadyIn.cons rfl (fun K hK => ?_) ?_
            · go_simp
              refine hK _ _ ?_
              clear hK K
              refine wpAnyIn_ready (rs := [5]) (by kernel_rfl) (by simp) ?_
              refine AllReadyIn.cons rfl (fun K hK => ?_) ?_
              · refine stepIn_append_eq (by rfl) _ _ 45 (by rfl) 45 (by rfl) _ _ (by rfl) (by rfl) _ _ hrun ?_
                refine hK _ _ ?_
                clear hK K
                refine wpAnyIn_ready (rs := [6]) (by kernel_rfl) (by simp) ?_
                refine AllReadyIn.cons rfl (fun K hK => ?_) ?_
                · go_simp
                  refine hK _ _ ?_
                  clear hK K
                  refine wpAnyIn_done (by kernel_rfl) ?_ _
                  exact ⟨rfl, J5l, .inl ⟨trivial, unhide FIN⟩⟩
                exact AllReadyIn.nil
              exact AllReadyIn.nil
            exact AllReadyIn.nil
          exact AllReadyIn.nil
        refine AllReadyIn.cons rfl (fun K hK => ?_) ?_
        · go_simp
          refine hK _ _ ?_
          clear hK K
          refine wpAnyIn_ready (rs := [0, 4]) (by kernel_rfl) (by simp) ?_
          refine AllReadyIn.cons rfl (fun K hK => ?_) ?_
          · go_simp
            refine hK _ _ ?_
            clear hK K
            refine wpAnyIn_ready (rs := [4]) (by kernel_rfl) (by simp) ?_
            refine AllReadyIn.cons rfl (fun K hK => ?_) ?_
            · go_simp
              refine hK _ _ ?_
              clear hK K
              refine wpAnyIn_ready (rs := [5]) (by kernel_rfl) (by simp) ?_
              refine AllReadyIn.cons rfl (fun K hK => ?_) ?_
              · refine stepIn_append_eq (by rfl) _ _ 45 (by rfl) 45 (by rfl) _ _ (by rfl) (by rfl) _ _ hrun ?_
                refine hK _ _ ?_
                clear hK K
                refine wpAnyIn_ready (rs := [6]) (by kernel_rfl) (by simp) ?_
                refine AllReadyIn.cons rfl (fun K hK => ?_) ?_
                · go_simp
                  refine hK _ _ ?_
                  clear hK K
                  refine wpAnyIn_done (by kernel_rfl) ?_ _
                  exact ⟨rfl, J5l, .inl ⟨trivial, unhide FIN⟩⟩
                exact AllReadyIn.nil
              exact AllReadyIn.nil
            exact AllReadyIn.nil
          refine AllReadyIn.cons rfl (fun K hK => ?_) ?_
          · go_simp
            refine hK _ _ ?_
            clear hK K
            refine wpAnyIn_ready (rs := [0]) (by kernel_rfl) (by simp) ?_
            refine AllReadyIn.cons rfl (fun K hK => ?_) ?_
            · go_simp
              refine hK _ _ ?_
              clear hK K
              refine wpAnyIn_ready (rs := [5]) (by kernel_rfl) (by simp) ?_
              refine AllReadyIn.cons rfl (fun K hK => ?_) ?_
              · refine stepIn_append_eq (by rfl) _ _ 45 (by rfl) 45 (by rfl) _ _ (by rfl) (by rfl) _ _ hrun ?_
                refine hK _ _ ?_
                clear hK K
                refine wpAnyIn_ready (rs := [6]) (by kernel_rfl) (by simp) ?_
                refine AllReadyIn.cons rfl (fun K hK => ?_) ?_
                · go_simp
                  refine hK _ _ ?_
                  clear hK K
                  refine wpAnyIn_done (by kernel_rfl) ?_ _
                  exact ⟨rfl, J5l, .inl ⟨trivial, unhide FIN⟩⟩
                exact AllReadyIn.nil
              exact AllReadyIn.nil
            exact AllReadyIn.nil
          exact AllReadyIn.nil
        exact AllReadyIn.nil
      · rw [show decide (0 < xv) = false by simpa using hv] at HP
        rw [stepS, if_pos ⟨hc, hv⟩] at hss
        gi_wp2_with fail
        refine ⟨trivial, (callsIn_wide.2 (unhide HP)).mono ?_⟩
        rintro e W6 ⟨rfl, rfl⟩
        obtain ⟨i0, hi, hz0, hz1, hz2⟩ := info_parts info9
        have Jd := J4.drew
        have d0 : W6.drew.cell? ⟨g, i * 2, none⟩ = some (.string xk) := c0
        have k2d : W6.drew.heap[h + 2]? = some (.cells #[v2] 45) := k2
        have k1d : W6.drew.heap[h + 1]? = some (.cells #[.slice va (shr n (es.take i)).1.length vc] 30) := k1
        have own2d : W6.drew.ownsRow h 54 2 v2 _ _ := own_keep own2 fun _ _ _ => rfl
        have own1d : W6.drew.ownsRow h 9 1 (.slice va (shr n (es.take i)).1.length vc) _ _ := own_keep own1 fun _ _ _ => rfl
        have e1 : W6.drew.cell? ⟨h + 1, 0, none⟩ = some (.slice va (shr n (es.take i)).1.length vc) := by rw [cell_of k1d]; rfl
        have e1x : (W6.drew.alloc (.cells #[.string xk] 9)).cell? ⟨h + 1, 0, none⟩ = some (.slice va (shr n (es.take i)).1.length vc) := (World.cell?_alloc_past _ _ _ (lt_of_heap k1d)).trans e1
        have own5 := own_keep (W' := W6.drew.alloc (.cells #[.string xk] 9)) own1d (fun k cur hc => Below.heap_alloc _ _ _ (lt_of_heap hc))
        obtain ⟨v', W5, hrun, own7, hgr, -, -⟩ := run_append_own_at (P := Try.prog) (W6.drew.alloc (.cells #[.string xk] 9)) h 30 30 9 i0 _ 1 16 Try.underlying30 hi hz0 hz1 hz2 rfl (by decide) (.slice va (shr n (es.take i)).1.length vc) _ _ own5 ⟨W6.drew.heap.size, 0, none⟩ 1 1 [.string xk] rfl (cell_one_new W6.drew _ _) (by intro u hu; simp at hu; subst hu; rfl) (by unfold maxLen; omega) (by omega) (by simp; omega)
        obtain ⟨F5, H5, k5, own8⟩ := box_more1 Jd.f k1d own1d hgr own7 (by omega)
        have k25 : (W5.setCell ⟨h + 1, 0, none⟩ v').heap[h + 2]? = some (.cells #[v2] 45) := (Below.heap_setCell _ _ _ _ (by simp)).trans (grown_keep own1d hgr k2d (by simp))
        have k05 : (W5.setCell ⟨h + 1, 0, none⟩ v').heap[h]? = some (.cells #[.int .i64 n] 3) := (Below.heap_setCell _ _ _ _ (by simp)).trans (grown_keep own1d hgr Jd.k0 (by simp))
        have own25 : (W5.setCell ⟨h + 1, 0, none⟩ v').ownsRow h 54 2 v2 _ _ := own_keep own2d fun k cur hc => by
          rw [Below.heap_setCell _ _ _ _ (by rintro rfl; rw [k1d] at hc; simp at hc), grown_keep own1d hgr hc (by simp), hc]
        have J5 : SJ w (W5.setCell ⟨h + 1, 0, none⟩ v') rb h b es n (i + 1) := by
          refine ⟨F5, k05, ⟨v', k5, ?_⟩, ⟨_, k25, ?_⟩⟩
          · rw [hss, List.length_append]; simpa [strs] using own8
          · rw [hss]; exact own25
        have ef5 : W5.frozen? ⟨h + 1, 0, none⟩ = false := frozen_of H5 0
        have ec5 : W5.cell? ⟨h + 1, 0, none⟩ = some (.slice va (shr n (es.take i)).1.length vc) := by rw [cell_of H5]; rfl
        obtain ⟨q', cp, rfl⟩ := own_form own7
        have J5l := J5.f.l
        have FIN := hide (J5.put r)
        clear J4 Jd J5 k1 own1 k2 own2 own5 own7 hgr F5 H5 k5 own8 k25 k05 own25 k2d k1d own2d own1d hss hsl htl c0 c1
        generalize (shr n (es.take i)).1.length + 1 = m at *
        generalize (shr n (es.take i)).1.length = m0 at *
        gi_wp2_with fail
        refine wpIn_region_round (by kernel_rfl) (by kernel_rfl) ?_
        generalize W6.drew = X at *
        refine wpAnyIn_take (i := 1) (v := ?_) rfl rfl (by kernel_rfl) (by kernel_rfl) (by kernel_rfl) (fun _ _ _ h => h) ⟨Or.inl ⟨by rfl, ?hy⟩, fun _ => rfl⟩ ?_
        case hy => intro w; go_simp; all_goals with_reducible rfl
        refine wpAnyIn_take (i := 2) (v := ?_) rfl rfl (by kernel_rfl) (by kernel_rfl) (by kernel_rfl) (fun _ _ _ h => h) ⟨Or.inl ⟨by rfl, ?hy⟩, fun _ => rfl⟩ ?_
        case hy => intro w; go_simp; all_goals with_reducible rfl
        refine wpAnyIn_take (i := 3) (v := ?_) rfl rfl (by kernel_rfl) (by kernel_rfl) (by kernel_rfl) (fun _ _ _ h => h) ⟨Or.inl ⟨by rfl, ?hy⟩, fun _ => rfl⟩ ?_
        case hy => intro w; go_simp; all_goals with_reducible rfl
        refine wpAnyIn_ready (rs := [0, 4]) (by kernel_rfl) (by simp) ?_
        refine AllReadyIn.cons rfl (fun K hK => ?_) ?_
        · go_simp
          refine hK _ _ ?_
          clear hK K
          refine wpAnyIn_ready (rs := [4]) (by kernel_rfl) (by simp) ?_
          refine AllReadyIn.cons rfl (fun K hK => ?_) ?_
          · go_simp
            refine hK _ _ ?_
            clear hK K
            refine wpAnyIn_ready (rs := [5]) (by kernel_rfl) (by simp) ?_
            refine AllReadyIn.cons rfl (fun K hK => ?_) ?_
            · go_simp
              refine hK _ _ ?_
              clear hK K
              refine wpAnyIn_ready (rs := [6]) (by kernel_rfl) (by simp) ?_
              refine AllReadyIn.cons rfl (fun K hK => ?_) ?_
              · refine stepIn_append_eq (by rfl) _ _ 30 (by rfl) 30 (by rfl) _ _ (by rfl) (by rfl) _ _ hrun ?_
                refine hK _ _ ?_
                clear hK K
                refine wpAnyIn_ready (rs := [7]) (by kernel_rfl) (by simp) ?_
                refine AllReadyIn.cons rfl (fun K hK => ?_) ?_
                · go_simp
                  refine hK _ _ ?_
                  clear hK K
                  refine wpAnyIn_done (by kernel_rfl) ?_ _
                  exact ⟨rfl, J5l, .inl ⟨trivial, unhide FIN⟩⟩
                exact AllReadyIn.nil
              exact AllReadyIn.nil
            exact AllReadyIn.nil
          exact AllReadyIn.nil
        refine AllReadyIn.cons rfl (fun K hK => ?_) ?_
        · go_simp
          refine hK _ _ ?_
          clear hK K
          refine wpAnyIn_ready (rs := [0, 5]) (by kernel_rfl) (by simp) ?_
          refine AllReadyIn.cons rfl (fun K hK => ?_) ?_
          · go_simp
            refine hK _ _ ?_
            clear hK K
            refine wpAnyIn_ready (rs := [5]) (by kernel_rfl) (by simp) ?_
            refine AllReadyIn.cons rfl (fun K hK => ?_) ?_
            · go_simp
              refine hK _ _ ?_
              clear hK K
              refine wpAnyIn_ready (rs := [6]) (by kernel_rfl) (by simp) ?_
              refine AllReadyIn.cons rfl (fun K hK => ?_) ?_
              · refine stepIn_append_eq (by rfl) _ _ 30 (by rfl) 30 (by rfl) _ _ (by rfl) (by rfl) _ _ hrun ?_
                refine hK _ _ ?_
                clear hK K
                refine wpAnyIn_ready (rs := [7]) (by kernel_rfl) (by simp) ?_
                refine AllReadyIn.cons rfl (fun K hK => ?_) ?_
                · go_simp
                  refine hK _ _ ?_
                  clear hK K
                  refine wpAnyIn_done (by kernel_rfl) ?_ _
                  exact ⟨rfl, J5l, .inl ⟨trivial, unhide FIN⟩⟩
                exact AllReadyIn.nil
              exact AllReadyIn.nil
            exact AllReadyIn.nil
          refine AllReadyIn.cons rfl (fun K hK => ?_) ?_
          · go_simp
            refine hK _ _ ?_
            clear hK K
            refine wpAnyIn_ready (rs := [0]) (by kernel_rfl) (by simp) ?_
            refine AllReadyIn.cons rfl (fun K hK => ?_) ?_
            · go_simp
              refine hK _ _ ?_
              clear hK K
              refine wpAnyIn_ready (rs := [6]) (by kernel_rfl) (by simp) ?_
              refine AllReadyIn.cons rfl (fun K hK => ?_) ?_
              · refine stepIn_append_eq (by rfl) _ _ 30 (by rfl) 30 (by rfl) _ _ (by rfl) (by rfl) _ _ hrun ?_
                refine hK _ _ ?_
                clear hK K
                refine wpAnyIn_ready (rs := [7]) (by kernel_rfl) (by simp) ?_
                refine AllReadyIn.cons rfl (fun K hK => ?_) ?_
                · go_simp
                  refine hK _ _ ?_
                  clear hK K
                  refine wpAnyIn_done (by kernel_rfl) ?_ _
                  exact ⟨rfl, J5l, .inl ⟨trivial, unhide FIN⟩⟩
                exact AllReadyIn.nil
              exact AllReadyIn.nil
            exact AllReadyIn.nil
          exact AllReadyIn.nil
        exact AllReadyIn.nil
    · rw [stepS, if_neg (by simp [hc])] at hss
      obtain ⟨i0, hi, hz0, hz1, hz2⟩ := info_parts info54
      have Jd := J4.drew
      have d0 : W4.drew.cell? ⟨g, i * 2, none⟩ = some (.string xk) := c0
      have d1 : W4.drew.cell? ⟨g, i * 2 + 1, none⟩ = some (.int .i64 xv) := c1
      have k2d : W4.drew.heap[h + 2]? = some (.cells #[v2] 45) := k2
      have k1d : W4.drew.heap[h + 1]? = some (.cells #[.slice va (shr n (es.take i)).1.length vc] 30) := k1
      have own2d : W4.drew.ownsRow h 54 2 v2 _ _ := own_keep own2 fun _ _ _ => rfl
      have own1d : W4.drew.ownsRow h 9 1 (.slice va (shr n (es.take i)).1.length vc) _ _ := own_keep own1 fun _ _ _ => rfl
      have e2 : W4.drew.cell? ⟨h + 2, 0, none⟩ = some v2 := by rw [cell_of k2d]; rfl
      have e2x : (W4.drew.alloc (.cells #[.string xk, .int .i64 xv] 54)).cell? ⟨h + 2, 0, none⟩ = some v2 := (World.cell?_alloc_past _ _ _ (lt_of_heap k2d)).trans e2
      have own5 := own_keep (W' := W4.drew.alloc (.cells #[.string xk, .int .i64 xv] 54)) own2d (fun k cur hc => Below.heap_alloc _ _ _ (lt_of_heap hc))
      obtain ⟨v', W5, hrun, own7, hgr, -, -⟩ := run_append_own_at (P := Try.prog) (W4.drew.alloc (.cells #[.string xk, .int .i64 xv] 54)) h 45 45 54 i0 _ 2 24 Try.underlying45 hi hz0 hz1 hz2 rfl (by decide) v2 _ _ own5 ⟨W4.drew.heap.size, 0, none⟩ 1 1 (row (xk, xv)) rfl (cells_new W4.drew (row (xk, xv)) 54) (by intro u hu; simp [row] at hu; rcases hu with rfl | rfl <;> rfl) (by unfold maxLen; omega) (by omega) (by simp; omega)
      obtain ⟨F5, H5, k5, own8⟩ := box_more Jd.f k2d own2d hgr own7 (by omega) (by decide) (by decide) (by decide)
      have k25 : (W5.setCell ⟨h + 2, 0, none⟩ v').heap[h + 1]? = some (.cells #[.slice va (shr n (es.take i)).1.length vc] 30) := (Below.heap_setCell _ _ _ _ (by simp)).trans (grown_keep own2d hgr k1d (by simp))
      have k05 : (W5.setCell ⟨h + 2, 0, none⟩ v').heap[h]? = some (.cells #[.int .i64 n] 3) := (Below.heap_setCell _ _ _ _ (by simp)).trans (grown_keep own2d hgr Jd.k0 (by simp))
      have own25 : (W5.setCell ⟨h + 2, 0, none⟩ v').ownsRow h 9 1 (.slice va (shr n (es.take i)).1.length vc) _ _ := own_keep own1d fun k cur hc => by
        rw [Below.heap_setCell _ _ _ _ (by rintro rfl; rw [k2d] at hc; simp at hc), grown_keep own2d hgr hc (by simp), hc]
      have J5 : SJ w (W5.setCell ⟨h + 2, 0, none⟩ v') rb h b es n (i + 1) := by
        refine ⟨F5, k05, ⟨_, k25, ?_⟩, ⟨v', k5, ?_⟩⟩
        · rw [hss]; exact own25
        · rw [hss, List.length_append, rowsOf_append]; exact own8
      have ef5 : W5.frozen? ⟨h + 2, 0, none⟩ = false := frozen_of H5 0
      have ec5 : W5.cell? ⟨h + 2, 0, none⟩ = some v2 := by rw [cell_of H5]; rfl
      obtain ⟨q', cp, rfl⟩ := own_form own7
      generalize (shr n (es.take i)).2.length + 1 = m at *
      have J5l := J5.f.l
      have FIN := hide (J5.put r)
      clear J4 Jd J5 k1 own1 k2 own2 own5 own7 hgr F5 H5 k5 own8 k25 k05 own25 k2d k1d own2d own1d hss hsl htl c0 c1 HP
      gi_wp2_with fail
      refine ⟨trivial, ?_⟩
      gi_wp2_with fail
      refine wpIn_region_round (by kernel_rfl) (by kernel_rfl) ?_
      generalize W4.drew = X at *
      refine wpAnyIn_take (i := 1) (v := ?_) rfl rfl (by kernel_rfl) (by kernel_rfl) (by kernel_rfl) (fun _ _ _ h => h) ⟨Or.inl ⟨by rfl, ?hy⟩, fun _ => rfl⟩ ?_
      case hy => intro w; go_simp; all_goals with_reducible rfl
      refine wpAnyIn_take (i := 2) (v := ?_) rfl rfl (by kernel_rfl) (by kernel_rfl) (by kernel_rfl) (fun _ _ _ h => h) ⟨Or.inl ⟨by rfl, ?hy⟩, fun _ => rfl⟩ ?_
      case hy => intro w; go_simp; all_goals with_reducible rfl
      refine wpAnyIn_ready (rs := [0, 3]) (by kernel_rfl) (by simp) ?_
      refine AllReadyIn.cons rfl (fun K hK => ?_) ?_
      · go_simp
        refine hK _ _ ?_
        clear hK K
        refine wpAnyIn_ready (rs := [3]) (by kernel_rfl) (by simp) ?_
        refine AllReadyIn.cons rfl (fun K hK => ?_) ?_
        · go_simp
          refine hK _ _ ?_
          clear hK K
          refine wpAnyIn_ready (rs := [4]) (by kernel_rfl) (by simp) ?_
          refine AllReadyIn.cons rfl (fun K hK => ?_) ?_
          · go_simp
            refine hK _ _ ?_
            clear hK K
            refine wpAnyIn_ready (rs := [5]) (by kernel_rfl) (by simp) ?_
            refine AllReadyIn.cons rfl (fun K hK => ?_) ?_
            · refine stepIn_append_eq (by rfl) _ _ 45 (by rfl) 45 (by rfl) _ _ (by rfl) (by rfl) _ _ hrun ?_
              refine hK _ _ ?_
              clear hK K
              refine wpAnyIn_ready (rs := [6]) (by kernel_rfl) (by simp) ?_
              refine AllReadyIn.cons rfl (fun K hK => ?_) ?_
              · go_simp
                refine hK _ _ ?_
                clear hK K
                refine wpAnyIn_done (by kernel_rfl) ?_ _
                exact ⟨rfl, J5l, .inl ⟨trivial, unhide FIN⟩⟩
              exact AllReadyIn.nil
            exact AllReadyIn.nil
          exact AllReadyIn.nil
        exact AllReadyIn.nil
      refine AllReadyIn.cons rfl (fun K hK => ?_) ?_
      · go_simp
        refine hK _ _ ?_
        clear hK K
        refine wpAnyIn_ready (rs := [0, 4]) (by kernel_rfl) (by simp) ?_
        refine AllReadyIn.cons rfl (fun K hK => ?_) ?_
        · go_simp
          refine hK _ _ ?_
          clear hK K
          refine wpAnyIn_ready (rs := [4]) (by kernel_rfl) (by simp) ?_
          refine AllReadyIn.cons rfl (fun K hK => ?_) ?_
          · go_simp
            refine hK _ _ ?_
            clear hK K
            refine wpAnyIn_ready (rs := [5]) (by kernel_rfl) (by simp) ?_
            refine AllReadyIn.cons rfl (fun K hK => ?_) ?_
            · refine stepIn_append_eq (by rfl) _ _ 45 (by rfl) 45 (by rfl) _ _ (by rfl) (by rfl) _ _ hrun ?_
              refine hK _ _ ?_
              clear hK K
              refine wpAnyIn_ready (rs := [6]) (by kernel_rfl) (by simp) ?_
              refine AllReadyIn.cons rfl (fun K hK => ?_) ?_
              · go_simp
                refine hK _ _ ?_
                clear hK K
                refine wpAnyIn_done (by kernel_rfl) ?_ _
                exact ⟨rfl, J5l, .inl ⟨trivial, unhide FIN⟩⟩
              exact AllReadyIn.nil
            exact AllReadyIn.nil
          exact AllReadyIn.nil
        refine AllReadyIn.cons rfl (fun K hK => ?_) ?_
        · go_simp
          refine hK _ _ ?_
          clear hK K
          refine wpAnyIn_ready (rs := [0]) (by kernel_rfl) (by simp) ?_
          refine AllReadyIn.cons rfl (fun K hK => ?_) ?_
          · go_simp
            refine hK _ _ ?_
            clear hK K
            refine wpAnyIn_ready (rs := [5]) (by kernel_rfl) (by simp) ?_
            refine AllReadyIn.cons rfl (fun K hK => ?_) ?_
            · refine stepIn_append_eq (by rfl) _ _ 45 (by rfl) 45 (by rfl) _ _ (by rfl) (by rfl) _ _ hrun ?_
              refine hK _ _ ?_
              clear hK K
              refine wpAnyIn_ready (rs := [6]) (by kernel_rfl) (by simp) ?_
              refine AllReadyIn.cons rfl (fun K hK => ?_) ?_
              · go_simp
                refine hK _ _ ?_
                clear hK K
                refine wpAnyIn_done (by kernel_rfl) ?_ _
                exact ⟨rfl, J5l, .inl ⟨trivial, unhide FIN⟩⟩
              exact AllReadyIn.nil
            exact AllReadyIn.nil
          exact AllReadyIn.nil
        exact AllReadyIn.nil
      exact AllReadyIn.nil
  · rintro e W2 ⟨rfl, J | J⟩
    · refine ⟨⟨_, rfl⟩, J.f.l, ?_⟩
      have J6 := J.put { r with state := .exhausted }
      generalize W2.putObj (h + 5) (.loop { r with state := .exhausted }) = W3 at *
      obtain ⟨v, k1, own1⟩ := J6.ov
      obtain ⟨v2, k2, own2⟩ := J6.le
      rw [List.take_length] at own1 own2
      have G3 : Ls base W3 b mo es := (unhide HG).below (by rw [unhide HH]; exact J6.f.be)
      obtain ⟨a', cap', b0, b1, bf, _⟩ := G3.cells
      obtain ⟨av, cv, rfl⟩ := own_form own1
      obtain ⟨a2, c2, rfl⟩ := own_form own2
      have e0 : W3.cell? ⟨h + 1, 0, none⟩ = some (.slice av (shr n es).1.length cv) := by rw [cell_of k1]; rfl
      have e1 : W3.cell? ⟨h + 2, 0, none⟩ = some (.slice a2 (shr n es).2.length c2) := by rw [cell_of k2]; rfl
      have G5 := G3.setRow (own_base own2 hbs) rfl
      have hne : h + 1 ≠ b := by omega
      have HG5 := hide G5
      have H1 := hide own1
      have HJ := hide J6
      clear J J0 J6 htm hps has hbo hst hpe k1 own1 k2 own2 G3 G5 a1 ha
      generalize hm1 : (shr n es).1.length = m at *
      have HM := hide hm1
      clear hm1
      generalize hml : (shr n es).2.length = m2 at *
      clear hml
      gi_wp2_with fail
      have J6 := unhide HJ
      have hkb := (unhide HG).kb
      have dd5 : (W3.setCell ⟨b, 1, none⟩ (.slice a2 m2 c2)).heap[h + 4]? = some (.deferred (some [])) := (Below.heap_setCell _ _ _ _ (by show h + 4 ≠ b; omega)).trans J6.f.dd
      refine ⟨by simp, .inl ⟨_, _, rfl, run_takeDeferred dd5, ?_⟩⟩
      have po : ∀ k, k ≠ h + 4 → ((W3.setCell ⟨b, 1, none⟩ (.slice a2 m2 c2)).putObj (h + 4) (.deferred none)).heap[k]? = (W3.setCell ⟨b, 1, none⟩ (.slice a2 m2 c2)).heap[k]? := fun k hk => World.putObj_heap_other hk
      have pn : ∀ (k : Nat) (cur : Array Value) (t : TypeId), (W3.setCell ⟨b, 1, none⟩ (.slice a2 m2 c2)).heap[k]? = some (.cells cur t (0, 0)) → ((W3.setCell ⟨b, 1, none⟩ (.slice a2 m2 c2)).putObj (h + 4) (.deferred none)).heap[k]? = (W3.setCell ⟨b, 1, none⟩ (.slice a2 m2 c2)).heap[k]? := fun k cur t hc => po k (by rintro rfl; rw [dd5] at hc; simp at hc)
      have own7 := own_keep (W' := W3.setCell ⟨b, 1, none⟩ (.slice a2 m2 c2)) (unhide H1) (fun k cur hc => Below.heap_setCell _ _ _ _ (by
        rintro rfl
        obtain ⟨_, _, hb', _⟩ := ((unhide HG).below (W' := W3) (by rw [unhide HH]; exact J6.f.be)).hb
        rw [hb'] at hc
        simp at hc))
      have own8 := own_keep (W' := (W3.setCell ⟨b, 1, none⟩ (.slice a2 m2 c2)).putObj (h + 4) (.deferred none)) own7 (fun k cur hc => pn k cur 9 hc)
      have G5 := (unhide HG5).keep (W' := (W3.setCell ⟨b, 1, none⟩ (.slice a2 m2 c2)).putObj (h + 4) (.deferred none)) (fun k cur t hc _ => pn k cur t hc)
      have F5 : Fr base b w (W3.setCell ⟨b, 1, none⟩ (.slice a2 m2 c2)) := (Fr.of_below (by rw [unhide HH]; exact J6.f.be) (by rw [unhide HH]; exact hbs)).set (p := ⟨b, 1, none⟩) rfl hkb _
      rw [unhide HH]
      exact ⟨.slice av m cv, by simp [results, Try.results12, go_sem], _, rfl, by rw [unhide HM]; exact own8, G5, ⟨F5.os, F5.tape, F5.output, by rw [World.putObj_size]; exact F5.size, fun k hk => (po k (by omega)).trans (F5.low k hk), fun k o h1 h2 h3 => (po k (by have := lt_of_heap h1; have := unhide HH; omega)).trans (F5.blk k o h1 h2 h3)⟩⟩
    · exact J.elim
theorem shrink_any (base b : Nat) (mo n : Int) (es : Ents) (w : World) (hG : Ls base w b mo es) (hes : es.length ≤ 1000) :
    Calls Try.prog 12 #[.pointer (some ⟨b, 0, none⟩), .int .i64 n] w fun e w' => ∃ v, e = .returned v ∧ w'.ownsRow w.heap.size 9 1 v (shr n es).1.length (strs (shr n es).1) ∧ Ls base w' b mo (shr n es).2 ∧ Fr base b w w' :=
  callsIn_wide.1 (shrink_in base b mo n es w hG hes)
end Go.Proofs.Ytjcjibjagjiedaa
