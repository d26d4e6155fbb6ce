/-
  The contract of Poll: the ids that wait for nobody any more are told, in their order, and wait no longer; the others go on waiting.
-/
import Derived.Test.YtkgcgfnleabkdaaRel
namespace Go.Proofs.Ytkgcgfnleabkdaa
open Go.RowKit Go.Shelf
attribute [local go_sem] Oper.semAt_some

theorem info58 : (Try.prog.info? 58).map (fun i => (i.zero, i.size, i.bytes)) = some (some (.agg #[.int .i64 0, .bool false, .bool false, .bool false, .bool false, .bool false, .bool false, .bool false, .bool false]), 9, 16) := by kernel_rfl
/-- Those that wait for nobody; the others. -/
def free (ws : List Wt) : List Wt := ws.filter fun x => none8 x.on
def held (ws : List Wt) : List Wt := ws.filter fun x => !none8 x.on
theorem free_yes {ws : List Wt} {i : Nat} {x : Wt} (h : ws[i]? = some x) (he : none8 x.on = true) : free (ws.take (i + 1)) = free (ws.take i) ++ [x] ∧ held (ws.take (i + 1)) = held (ws.take i) := by
  constructor <;> simp [free, held, List.take_add_one, h, he]
theorem free_no {ws : List Wt} {i : Nat} {x : Wt} (h : ws[i]? = some x) (he : none8 x.on = false) : held (ws.take (i + 1)) = held (ws.take i) ++ [x] ∧ free (ws.take (i + 1)) = free (ws.take i) := by
  constructor <;> simp [free, held, List.take_add_one, h, he]
theorem free_len (ws : List Wt) : (free ws).length ≤ ws.length := List.length_filter_le _ _
theorem held_len (ws : List Wt) : (held ws).length ≤ ws.length := List.length_filter_le _ _

theorem Gr.setWaits {base : Nat} {W : World} {b c n : Nat} {ss : List Int} {ws ws' : List Wt} {a : Option Addr} {m cap : Nat} (h : Gr base W b c n ss ws) (own : W.ownsRow base 58 9 (.slice a m cap) m (rowsOf Wt.row ws')) (hm : ws'.length = m) : Gr base (W.setCell ⟨b, 1, none⟩ (.slice a m cap)) b c n ss ws' := by
  obtain ⟨a0, cap0, h1, h2⟩ := h.hb
  subst hm
  refine ⟨⟨a, cap, ?_, own_keep own fun k cur hc => Below.heap_setCell _ _ _ _ ?_⟩, (Below.heap_setCell _ _ _ _ (Ne.symm h.nb)).trans h.hc, h.len, h.lo, h.hi, h.kb, h.kc⟩
  · rw [heap_set h1]; simp
  · rintro rfl
    rw [h1] at hc
    simp at hc
theorem cells_new (w : World) (cs : List Value) (t : TypeId) : ∀ (j : Nat) (u : Value), cs[j]? = some u → (w.alloc (.cells cs.toArray t)).cell? ((⟨w.heap.size, 0, none⟩ : Addr).add j) = some u := by
  intro j u hj
  have ea : (⟨w.heap.size, 0, none⟩ : Addr).add j = ⟨w.heap.size, j, none⟩ := by unfold Addr.add; split <;> simp_all
  rw [ea, cell_of (putAll (w := w) (.cells cs.toArray t) w.heap.size rfl), List.getElem?_toArray]; exact hj
theorem row_one (x : Wt) : ∀ u ∈ Wt.row x, u.oneCell' = true := by
  intro u hu
  simp only [Wt.row, bits, List.mem_cons, List.not_mem_nil, or_false] at hu
  rcases hu with rfl | rfl | rfl | rfl | rfl | rfl | rfl | rfl | rfl <;> rfl

/-- What lies while Poll goes over what waits. -/
structure PJ (w W : World) (r : Loop) (h b : Nat) (ws : List Wt) (i : Nat) : Prop where
  f : Fl w W r h (h + 4) (h + 3) (h + 2) b
  ov : ∃ v, W.heap[h]? = some (.cells #[v] 29) ∧ W.ownsRow h 2 1 v (free (ws.take i)).length (ints (idsOf (free (ws.take i))))
  le : ∃ v, W.heap[h + 1]? = some (.cells #[v] 51) ∧ W.ownsRow h 58 9 v (held (ws.take i)).length (rowsOf Wt.row (held (ws.take i)))
theorem PJ.put {w W : World} {r : Loop} {h b : Nat} {ws : List Wt} {i : Nat} (J : PJ w W r h b ws i) (r' : Loop) : PJ w (W.putObj (h + 4) (.loop r')) r' h b ws i := by
  obtain ⟨v, k1, own1⟩ := J.ov
  obtain ⟨v2, k2, own2⟩ := J.le
  exact ⟨J.f.put r' (by omega), ⟨v, put_other J.f.l k1 (by simp), own_put own1 J.f.l⟩, ⟨v2, put_other J.f.l k2 (by simp), own_put own2 J.f.l⟩⟩
theorem PJ.below {w W W' : World} {r : Loop} {h b : Nat} {ws : List Wt} {i : Nat} (J : PJ w W r h b ws i) (hB : Below W.heap.size W W') (hh : h ≤ W.heap.size) : PJ w W' r h b ws i := by
  obtain ⟨v, k1, own1⟩ := J.ov
  obtain ⟨v2, k2, own2⟩ := J.le
  have kp : ∀ {k : Nat} {o : Obj}, W.heap[k]? = some o → W'.heap[k]? = some o := fun h1 => (hB.block _ (lt_of_heap h1)).trans h1
  exact ⟨⟨kp J.f.l, kp J.f.dd, kp J.f.xx, J.f.be.trans (hB.mono hh)⟩, ⟨v, kp k1, own_keep own1 fun k cur hc => (kp hc).trans hc.symm⟩, ⟨v2, kp k2, own_keep own2 fun k cur hc => (kp hc).trans hc.symm⟩⟩

set_option maxRecDepth 100000 in
set_option maxHeartbeats 1000000 in
theorem poll_in (base b c n : Nat) (ss : List Int) (ws : List Wt) (w : World) (hG : Gr base w b c n ss ws) (hws : ws.length ≤ 16) :
    CallsIn Fence.wide 4 Try.prog 11 #[.pointer (some ⟨b, 0, none⟩)] w fun e w' => ∃ v, e = .returned v ∧ w'.ownsRow w.heap.size 2 1 v (free ws).length (ints (idsOf (free ws))) ∧ Gr base w' b c n ss (held ws) ∧ Fr base b c w w' := by
  have hro : Fence.wide.round = none := rfl
  obtain ⟨a, cap, a0, a1, af, ag, own⟩ := hG.cells
  obtain ⟨g, ha⟩ := own_addr own
  have hbl := hG.lt
  have hbs := hG.base_le
  have HG := hide hG
  clear hG a0 af ag own
  refine callsIn_of_wp_marks Try.func11 rfl trivial ?_ hro
  simp only [Try.ntmps11, List.size_toArray, List.length_cons, List.length_nil, Nat.reduceAdd, Nat.reduceSub, Array.replicate_succ, Array.replicate_zero, List.push_toArray, List.append_toArray, List.nil_append, List.cons_append]
  gi_wp2_with fail
  refine ⟨trivial, (callsIn_wide.2 (waiting_any b _)).mono ?_⟩
  rintro e w' ⟨rfl, rfl⟩
  gi_wp2_with fail
  obtain ⟨V, hV, hsz, g0, g1, g2, hB⟩ := three0 w (.cells #[.slice none 0 0] 29) (.cells #[.slice none 0 0] 51) (.cells #[.pointer (some ⟨b, 0, none⟩)] 22)
  rw [hV]
  clear hV
  generalize hh : w.heap.size = h at *
  have HH : Hid (w.heap.size = h) := hh
  refine wpIn_range_own hro (by omega) (gf := 35) (lb := #[.pointer (some ⟨h + 2, 0, none⟩)]) rfl trivial (enters_of Try.func35 (by kernel_rfl) rfl) ?_
  intro r hF hst hpe htm hps has hbo
  obtain ⟨L1, D1, hB2⟩ := setup V r
  rw [hsz] at L1 D1 ⊢
  generalize ((V.alloc (.deferred (some []))).alloc (.loop r)) = W1 at L1 D1 hB2 ⊢
  have J0 : PJ w W1 r h b ws 0 := ⟨⟨L1, D1, (hB2.block _ (by omega)).trans g2, hB.trans (hB2.mono (by omega))⟩, ⟨_, (hB2.block _ (by omega)).trans g0, World.ownsRow_nil _ _ _ _⟩, ⟨_, (hB2.block _ (by omega)).trans g1, World.ownsRow_nil _ _ _ _⟩⟩
  clear L1 D1 hB2 g0 g1 g2 hB
  refine (waiting_go (h + 4) (h + 2) b g ws.length cap a W1 (fun i W => PJ w W r h b ws i) (fun _ => False) (by omega) J0 ha (fun i W' J => ⟨by rw [cell_of J.f.xx]; rfl, (World.cell?_of_block (J.f.be.block b (by omega))).trans a1⟩) ?_).mono ?_
  · intro i W2 J him
    refine yield_own hF hst hpe htm hps has hbo rfl J.f.l ?_
    clear htm hps has hbo hst hpe J0
    intro rb
    gi_wp2
    refine ⟨J.f.l, ?_⟩
    have J4 := J.put rb
    generalize W2.putObj (h + 4) (.loop rb) = W4 at *
    clear J
    have hs4 : h + 4 < W4.heap.size := lt_of_heap J4.f.l
    have G4 : Gr base W4 b c n ss ws := (unhide HG).below (by rw [unhide HH]; exact J4.f.be)
    obtain ⟨x, hx⟩ : ∃ x, ws[i]? = some x := ⟨_, List.getElem?_eq_getElem him⟩
    obtain ⟨a', cap', _, a1', _, _, ownw⟩ := G4.cells
    have hbb := (World.cell?_of_block (a := ⟨b, 1, none⟩) (J4.f.be.block b (by omega))).trans a1
    rw [a1'] at hbb
    simp only [Option.some.injEq, Value.slice.injEq] at hbb
    obtain ⟨rfl, -, rfl⟩ := hbb
    obtain rfl : a' = some ⟨g, 0, none⟩ := by
      rcases ha with ⟨_, hz, _⟩ | e
      · omega
      · exact e
    obtain ⟨⟨-, cs⟩, _⟩ := wt_cells ownw rfl hx
    have HOW := hide ownw
    have HJ4 := hide J4
    have HX := hide hx
    have d1 : W4.cell? ⟨g, i * 9 + 1, none⟩ = some (.bool (x.on 0)) := cs 0 (by omega)
    have d2 : W4.cell? ⟨g, i * 9 + 2, none⟩ = some (.bool (x.on 1)) := cs 1 (by omega)
    have d3 : W4.cell? ⟨g, i * 9 + 3, none⟩ = some (.bool (x.on 2)) := cs 2 (by omega)
    have d4 : W4.cell? ⟨g, i * 9 + 4, none⟩ = some (.bool (x.on 3)) := cs 3 (by omega)
    have d5 : W4.cell? ⟨g, i * 9 + 5, none⟩ = some (.bool (x.on 4)) := cs 4 (by omega)
    have d6 : W4.cell? ⟨g, i * 9 + 6, none⟩ = some (.bool (x.on 5)) := cs 5 (by omega)
    have d7 : W4.cell? ⟨g, i * 9 + 7, none⟩ = some (.bool (x.on 6)) := cs 6 (by omega)
    have d8 : W4.cell? ⟨g, i * 9 + 8, none⟩ = some (.bool (x.on 7)) := cs 7 (by omega)
    clear G4 hx a1 a1' ha HG cs ownw J4
    gi_wp2_with fail
    refine ⟨trivial, (callsIn_wide.2 (empty_any x.on _)).mono ?_⟩
    rintro e W6 ⟨rfl, hB6⟩
    have hs6 := hB6.size
    have J6 := (unhide HJ4).below hB6 (by omega)
    have own6 := own_keep (unhide HOW) fun k cur hc => hB6.block k (lt_of_heap hc)
    have J6 : PJ w W6.drew rb h b ws i := J6.below ⟨rfl, rfl, rfl, Nat.le_refl _, fun _ _ => rfl⟩ (by omega)
    have own6 := own_keep (W' := W6.drew) own6 fun _ _ _ => rfl
    have hx := unhide HX
    have hs7 : h + 4 < W6.drew.heap.size := lt_of_heap J6.f.l
    have hlt := List.length_take_le i ws
    clear d1 d2 d3 d4 d5 d6 d7 d8 HJ4 HOW HX
    cases he : none8 x.on
    · obtain ⟨⟨c0, cs⟩, _⟩ := wt_cells own6 rfl hx
      obtain ⟨v, k1, own1⟩ := J6.ov
      obtain ⟨v2, k2, own2⟩ := J6.le
      obtain ⟨i0, hi, hz0, hz1, hz2⟩ := info_parts info58
      have d1 : W6.drew.cell? ⟨g, i * 9 + 1, none⟩ = some (.bool (x.on 0)) := cs 0 (by omega)
      have d2 : W6.drew.cell? ⟨g, i * 9 + 2, none⟩ = some (.bool (x.on 1)) := cs 1 (by omega)
      have d3 : W6.drew.cell? ⟨g, i * 9 + 3, none⟩ = some (.bool (x.on 2)) := cs 2 (by omega)
      have d4 : W6.drew.cell? ⟨g, i * 9 + 4, none⟩ = some (.bool (x.on 3)) := cs 3 (by omega)
      have d5 : W6.drew.cell? ⟨g, i * 9 + 5, none⟩ = some (.bool (x.on 4)) := cs 4 (by omega)
      have d6 : W6.drew.cell? ⟨g, i * 9 + 6, none⟩ = some (.bool (x.on 5)) := cs 5 (by omega)
      have d7 : W6.drew.cell? ⟨g, i * 9 + 7, none⟩ = some (.bool (x.on 6)) := cs 6 (by omega)
      have d8 : W6.drew.cell? ⟨g, i * 9 + 8, none⟩ = some (.bool (x.on 7)) := cs 7 (by omega)
      have e0 : W6.drew.cell? ⟨h + 1, 0, none⟩ = some v2 := by rw [cell_of k2]; rfl
      have e0x : (W6.drew.alloc (.cells #[.int .i64 x.id, .bool (x.on 0), .bool (x.on 1), .bool (x.on 2), .bool (x.on 3), .bool (x.on 4), .bool (x.on 5), .bool (x.on 6), .bool (x.on 7)] 58)).cell? ⟨h + 1, 0, none⟩ = some v2 := (World.cell?_alloc_past _ _ _ (lt_of_heap k2)).trans e0
      have own5 := own_keep (W' := W6.drew.alloc (.cells #[.int .i64 x.id, .bool (x.on 0), .bool (x.on 1), .bool (x.on 2), .bool (x.on 3), .bool (x.on 4), .bool (x.on 5), .bool (x.on 6), .bool (x.on 7)] 58)) own2 (fun k cur hc => Below.heap_alloc _ _ _ (lt_of_heap hc))
      have hlf := held_len (ws.take i)
      obtain ⟨v', W5, hrun, own7, hgr, -, -⟩ := run_append_own_at (P := Try.prog) (W6.drew.alloc (.cells #[.int .i64 x.id, .bool (x.on 0), .bool (x.on 1), .bool (x.on 2), .bool (x.on 3), .bool (x.on 4), .bool (x.on 5), .bool (x.on 6), .bool (x.on 7)] 58)) h 51 51 58 i0 _ 9 16 Try.underlying51 hi hz0 hz1 hz2 rfl (by decide) v2 _ _ own5 ⟨W6.drew.heap.size, 0, none⟩ 1 1 (Wt.row x) rfl (cells_new W6.drew (Wt.row x) 58) (row_one x) (by unfold maxLen; omega) (by omega) (by simp; omega)
      obtain ⟨F5, H5, k5, own8⟩ := box_more J6.f k2 own2 hgr own7 (by omega) (by decide) (by decide) (by decide)
      have k25 : (W5.setCell ⟨h + 1, 0, none⟩ v').heap[h]? = some (.cells #[v] 29) := (Below.heap_setCell _ _ _ _ (by simp)).trans (grown_keep own2 hgr k1 (by simp))
      have own25 : (W5.setCell ⟨h + 1, 0, none⟩ v').ownsRow h 2 1 v _ _ := own_keep own1 fun k cur hc => by
        rw [Below.heap_setCell _ _ _ _ (by rintro rfl; rw [k2] at hc; simp at hc), grown_keep own2 hgr hc (by simp), hc]
      obtain ⟨ef1, ef2⟩ := free_no hx he
      have J5 : PJ w (W5.setCell ⟨h + 1, 0, none⟩ v') rb h b ws (i + 1) := by
        refine ⟨F5, ⟨v, k25, ?_⟩, ⟨v', k5, ?_⟩⟩
        · rw [ef2]; exact own25
        · rw [ef1]; rw [rowsOf_append]; simpa [rowsOf] using own8
      have ef5 : W5.frozen? ⟨h + 1, 0, none⟩ = false := frozen_of H5 0
      have ec5 : W5.cell? ⟨h + 1, 0, none⟩ = some v2 := by rw [cell_of H5]; rfl
      obtain ⟨g', cp, rfl⟩ := own_form own7
      generalize (held (ws.take i)).length + 1 = m at *
      have J5l := J5.f.l
      have FIN := hide (J5.put r)
      clear J6 J5 own6 k1 own1 k2 own2 own5 own7 hgr F5 H5 k5 own8 k25 own25 ef1 ef2 hx cs hlf hlt
      gi_wp2_with fail
      refine wpIn_region_round (by kernel_rfl) (by kernel_rfl) ?_
      generalize W6.drew = X at *
      refine wpAnyIn_take (i := 1) (v := ?_) rfl rfl (by kernel_rfl) (by kernel_rfl) (by kernel_rfl) (fun _ _ _ h => h) ⟨Or.inl ⟨by rfl, ?hy⟩, fun _ => rfl⟩ ?_
      case hy => intro w; go_simp; all_goals with_reducible rfl
      refine wpAnyIn_take (i := 2) (v := ?_) rfl rfl (by kernel_rfl) (by kernel_rfl) (by kernel_rfl) (fun _ _ _ h => h) ⟨Or.inl ⟨by rfl, ?hy⟩, fun _ => rfl⟩ ?_
      case hy => intro w; go_simp; all_goals with_reducible rfl
      refine wpAnyIn_ready (rs := [0, 3]) (by kernel_rfl) (by simp) ?_
      refine AllReadyIn.cons rfl (fun K hK => ?_) ?_
      · go_simp
        refine hK _ _ ?_
        clear hK K
        refine wpAnyIn_ready (rs := [3]) (by kernel_rfl) (by simp) ?_
        refine AllReadyIn.cons rfl (fun K hK => ?_) ?_
        · go_simp
          refine hK _ _ ?_
          clear hK K
          refine wpAnyIn_ready (rs := [4]) (by kernel_rfl) (by simp) ?_
          refine AllReadyIn.cons rfl (fun K hK => ?_) ?_
          · go_simp
            refine hK _ _ ?_
            clear hK K
            refine wpAnyIn_ready (rs := [5]) (by kernel_rfl) (by simp) ?_
            refine AllReadyIn.cons rfl (fun K hK => ?_) ?_
            · refine stepIn_append_eq (by rfl) _ _ 51 (by rfl) 51 (by rfl) _ _ (by rfl) (by rfl) _ _ hrun ?_
              refine hK _ _ ?_
              clear hK K
              refine wpAnyIn_ready (rs := [6]) (by kernel_rfl) (by simp) ?_
              refine AllReadyIn.cons rfl (fun K hK => ?_) ?_
              · go_simp
                refine hK _ _ ?_
                clear hK K
                refine wpAnyIn_done (by kernel_rfl) ?_ _
                exact ⟨rfl, J5l, .inl ⟨trivial, unhide FIN⟩⟩
              exact AllReadyIn.nil
            exact AllReadyIn.nil
          exact AllReadyIn.nil
        exact AllReadyIn.nil
      refine AllReadyIn.cons rfl (fun K hK => ?_) ?_
      · go_simp
        refine hK _ _ ?_
        clear hK K
        refine wpAnyIn_ready (rs := [0, 4]) (by kernel_rfl) (by simp) ?_
        refine AllReadyIn.cons rfl (fun K hK => ?_) ?_
        · go_simp
          refine hK _ _ ?_
          clear hK K
          refine wpAnyIn_ready (rs := [4]) (by kernel_rfl) (by simp) ?_
          refine AllReadyIn.cons rfl (fun K hK => ?_) ?_
          · go_simp
            refine hK _ _ ?_
            clear hK K
            refine wpAnyIn_ready (rs := [5]) (by kernel_rfl) (by simp) ?_
            refine AllReadyIn.cons rfl (fun K hK => ?_) ?_
            · refine stepIn_append_eq (by rfl) _ _ 51 (by rfl) 51 (by rfl) _ _ (by rfl) (by rfl) _ _ hrun ?_
              refine hK _ _ ?_
              clear hK K
              refine wpAnyIn_ready (rs := [6]) (by kernel_rfl) (by simp) ?_
              refine AllReadyIn.cons rfl (fun K hK => ?_) ?_
              · go_simp
                refine hK _ _ ?_
                clear hK K
                refine wpAnyIn_done (by kernel_rfl) ?_ _
                exact ⟨rfl, J5l, .inl ⟨trivial, unhide FIN⟩⟩
              exact AllReadyIn.nil
            exact AllReadyIn.nil
          exact AllReadyIn.nil
        refine AllReadyIn.cons rfl (fun K hK => ?_) ?_
        · go_simp
          refine hK _ _ ?_
          clear hK K
          refine wpAnyIn_ready (rs := [0]) (by kernel_rfl) (by simp) ?_
          refine AllReadyIn.cons rfl (fun K hK => ?_) ?_
          · go_simp
            refine hK _ _ ?_
            clear hK K
            refine wpAnyIn_ready (rs := [5]) (by kernel_rfl) (by simp) ?_
            refine AllReadyIn.cons rfl (fun K hK => ?_) ?_
            · refine stepIn_append_eq (by rfl) _ _ 51 (by rfl) 51 (by rfl) _ _ (by rfl) (by rfl) _ _ hrun ?_
              refine hK _ _ ?_
              clear hK K
              refine wpAnyIn_ready (rs := [6]) (by kernel_rfl) (by simp) ?_
              refine AllReadyIn.cons rfl (fun K hK => ?_) ?_
              · go_simp
                refine hK _ _ ?_
                clear hK K
                refine wpAnyIn_done (by kernel_rfl) ?_ _
                exact ⟨rfl, J5l, .inl ⟨trivial, unhide FIN⟩⟩
              exact AllReadyIn.nil
            exact AllReadyIn.nil
          exact AllReadyIn.nil
        exact AllReadyIn.nil
      exact AllReadyIn.nil
    · obtain ⟨⟨c0, cs⟩, _⟩ := wt_cells own6 rfl hx
      obtain ⟨v, k1, own1⟩ := J6.ov
      obtain ⟨v2, k2, own2⟩ := J6.le
      obtain ⟨i0, hi, hz0, hz1, hz2⟩ := info_parts info2
      have e0 : W6.drew.cell? ⟨h, 0, none⟩ = some v := by rw [cell_of k1]; rfl
      have e0x : (W6.drew.alloc (.cells #[.int .i64 x.id] 2)).cell? ⟨h, 0, none⟩ = some v := (World.cell?_alloc_past _ _ _ (lt_of_heap k1)).trans e0
      have own5 := own_keep (W' := W6.drew.alloc (.cells #[.int .i64 x.id] 2)) own1 (fun k cur hc => Below.heap_alloc _ _ _ (lt_of_heap hc))
      have hlf := free_len (ws.take i)
      obtain ⟨v', W5, hrun, own7, hgr, -, -⟩ := run_append_own_at (P := Try.prog) (W6.drew.alloc (.cells #[.int .i64 x.id] 2)) h 29 29 2 i0 (.int .i64 0) 1 8 Try.underlying29 hi hz0 hz1 hz2 rfl (by decide) v _ _ own5 ⟨W6.drew.heap.size, 0, none⟩ 1 1 [.int .i64 x.id] rfl (cell_one_new W6.drew _ _) (by intro u hu; simp at hu; subst hu; rfl) (by unfold maxLen; omega) (by omega) (by simp; omega)
      obtain ⟨F5, H5, k5, own8⟩ := box_more J6.f k1 own1 hgr own7 (by omega) (by decide) (by decide) (by decide)
      have k25 : (W5.setCell ⟨h, 0, none⟩ v').heap[h + 1]? = some (.cells #[v2] 51) := (Below.heap_setCell _ _ _ _ (by simp)).trans (grown_keep own1 hgr k2 (by simp))
      have own25 : (W5.setCell ⟨h, 0, none⟩ v').ownsRow h 58 9 v2 _ _ := own_keep own2 fun k cur hc => by
        rw [Below.heap_setCell _ _ _ _ (by rintro rfl; rw [k1] at hc; simp at hc), grown_keep own1 hgr hc (by simp), hc]
      obtain ⟨ef1, ef2⟩ := free_yes hx he
      have J5 : PJ w (W5.setCell ⟨h, 0, none⟩ v') rb h b ws (i + 1) := by
        refine ⟨F5, ⟨v', k5, ?_⟩, ⟨v2, k25, ?_⟩⟩
        · rw [ef1]; simpa [ints, idsOf] using own8
        · rw [ef2]; exact own25
      have ef5 : W5.frozen? ⟨h, 0, none⟩ = false := frozen_of H5 0
      have ec5 : W5.cell? ⟨h, 0, none⟩ = some v := by rw [cell_of H5]; rfl
      obtain ⟨g', cp, rfl⟩ := own_form own7
      generalize (free (ws.take i)).length + 1 = m at *
      have J5l := J5.f.l
      have FIN := hide (J5.put r)
      clear J6 J5 own6 k1 own1 k2 own2 own5 own7 hgr F5 H5 k5 own8 k25 own25 ef1 ef2 hx cs hlf hlt
      gi_wp2_with fail
      refine wpIn_region_round (by kernel_rfl) (by kernel_rfl) ?_
      generalize W6.drew = X at *
      refine wpAnyIn_take (i := 1) (v := ?_) rfl rfl (by kernel_rfl) (by kernel_rfl) (by kernel_rfl) (fun _ _ _ h => h) ⟨Or.inl ⟨by rfl, ?hy⟩, fun _ => rfl⟩ ?_
      case hy => intro w; go_simp; all_goals with_reducible rfl
      refine wpAnyIn_take (i := 2) (v := ?_) rfl rfl (by kernel_rfl) (by kernel_rfl) (by kernel_rfl) (fun _ _ _ h => h) ⟨Or.inl ⟨by rfl, ?hy⟩, fun _ => rfl⟩ ?_
      case hy => intro w; go_simp; all_goals with_reducible rfl
      refine wpAnyIn_take (i := 3) (v := ?_) rfl rfl (by kernel_rfl) (by kernel_rfl) (by kernel_rfl) (fun _ _ _ h => h) ⟨Or.inl ⟨by rfl, ?hy⟩, fun _ => rfl⟩ ?_
      case hy => intro w; go_simp; all_goals with_reducible rfl
      refine wpAnyIn_ready (rs := [0, 4]) (by kernel_rfl) (by simp) ?_
      refine AllReadyIn.cons rfl (fun K hK => ?_) ?_
      · go_simp
        refine hK _ _ ?_
        clear hK K
        refine wpAnyIn_ready (rs := [4]) (by kernel_rfl) (by simp) ?_
        refine AllReadyIn.cons rfl (fun K hK => ?_) ?_
        · go_simp
          refine hK _ _ ?_
          clear hK K
          refine wpAnyIn_ready (rs := [5]) (by kernel_rfl) (by simp) ?_
          refine AllReadyIn.cons rfl (fun K hK => ?_) ?_
          · go_simp
            refine hK _ _ ?_
            clear hK K
            refine wpAnyIn_ready (rs := [6]) (by kernel_rfl) (by simp) ?_
            refine AllReadyIn.cons rfl (fun K hK => ?_) ?_
            · refine stepIn_append_eq (by rfl) _ _ 29 (by rfl) 29 (by rfl) _ _ (by rfl) (by rfl) _ _ hrun ?_
              refine hK _ _ ?_
              clear hK K
              refine wpAnyIn_ready (rs := [7]) (by kernel_rfl) (by simp) ?_
              refine AllReadyIn.cons rfl (fun K hK => ?_) ?_
              · go_simp
                refine hK _ _ ?_
                clear hK K
                refine wpAnyIn_done (by kernel_rfl) ?_ _
                exact ⟨rfl, J5l, .inl ⟨trivial, unhide FIN⟩⟩
              exact AllReadyIn.nil
            exact AllReadyIn.nil
          exact AllReadyIn.nil
        exact AllReadyIn.nil
      refine AllReadyIn.cons rfl (fun K hK => ?_) ?_
      · go_simp
        refine hK _ _ ?_
        clear hK K
        refine wpAnyIn_ready (rs := [0, 5]) (by kernel_rfl) (by simp) ?_
        refine AllReadyIn.cons rfl (fun K hK => ?_) ?_
        · go_simp
          refine hK _ _ ?_
          clear hK K
          refine wpAnyIn_ready (rs := [5]) (by kernel_rfl) (by simp) ?_
          refine AllReadyIn.cons rfl (fun K hK => ?_) ?_
          · go_simp
            refine hK _ _ ?_
            clear hK K
            refine wpAnyIn_ready (rs := [6]) (by kernel_rfl) (by simp) ?_
            refine AllReadyIn.cons rfl (fun K hK => ?_) ?_
            · refine stepIn_append_eq (by rfl) _ _ 29 (by rfl) 29 (by rfl) _ _ (by rfl) (by rfl) _ _ hrun ?_
              refine hK _ _ ?_
              clear hK K
              refine wpAnyIn_ready (rs := [7]) (by kernel_rfl) (by simp) ?_
              refine AllReadyIn.cons rfl (fun K hK => ?_) ?_
              · go_simp
                refine hK _ _ ?_
                clear hK K
                refine wpAnyIn_done (by kernel_rfl) ?_ _
                exact ⟨rfl, J5l, .inl ⟨trivial, unhide FIN⟩⟩
              exact AllReadyIn.nil
            exact AllReadyIn.nil
          exact AllReadyIn.nil
        refine AllReadyIn.cons rfl (fun K hK => ?_) ?_
        · go_simp
          refine hK _ _ ?_
          clear hK K
          refine wpAnyIn_ready (rs := [0]) (by kernel_rfl) (by simp) ?_
          refine AllReadyIn.cons rfl (fun K hK => ?_) ?_
          · go_simp
            refine hK _ _ ?_
            clear hK K
            refine wpAnyIn_ready (rs := [6]) (by kernel_rfl) (by simp) ?_
            refine AllReadyIn.cons rfl (fun K hK => ?_) ?_
            · refine stepIn_append_eq (by rfl) _ _ 29 (by rfl) 29 (by rfl) _ _ (by rfl) (by rfl) _ _ hrun ?_
              refine hK _ _ ?_
              clear hK K
              refine wpAnyIn_ready (rs := [7]) (by kernel_rfl) (by simp) ?_
              refine AllReadyIn.cons rfl (fun K hK => ?_) ?_
              · go_simp
                refine hK _ _ ?_
                clear hK K
                refine wpAnyIn_done (by kernel_rfl) ?_ _
                exact ⟨rfl, J5l, .inl ⟨trivial, unhide FIN⟩⟩
              exact AllReadyIn.nil
            exact AllReadyIn.nil
          exact AllReadyIn.nil
        exact AllReadyIn.nil
      exact AllReadyIn.nil
  · rintro e W2 ⟨rfl, J | J⟩
    · refine ⟨⟨_, rfl⟩, J.f.l, ?_⟩
      have J6 := J.put { r with state := .exhausted }
      generalize W2.putObj (h + 4) (.loop { r with state := .exhausted }) = W3 at *
      obtain ⟨v, k1, own1⟩ := J6.ov
      obtain ⟨v2, k2, own2⟩ := J6.le
      rw [List.take_length] at own1 own2
      have G3 : Gr base W3 b c n ss ws := (unhide HG).below (by rw [unhide HH]; exact J6.f.be)
      obtain ⟨a', cap', b0, b1, bf, _, _⟩ := G3.cells
      obtain ⟨av, cv, rfl⟩ := own_form own1
      obtain ⟨a2, c2, rfl⟩ := own_form own2
      have e0 : W3.cell? ⟨h, 0, none⟩ = some (.slice av (free ws).length cv) := by rw [cell_of k1]; rfl
      have e1 : W3.cell? ⟨h + 1, 0, none⟩ = some (.slice a2 (held ws).length c2) := by rw [cell_of k2]; rfl
      have G5 := G3.setWaits (own_base own2 hbs) rfl
      have hne : h ≠ b := by omega
      have HG5 := hide G5
      have H1 := hide own1
      have HJ := hide J6
      have HK1 := hide k1
      clear J J0 J6 htm hps has hbo hst hpe k1 own1 k2 own2 G3 G5 a1 ha
      generalize hm1 : (free ws).length = m at *
      have HM := hide hm1
      clear hm1
      generalize hml : (held ws).length = m2 at *
      have HML := hide hml
      clear hml
      gi_wp2_with fail
      have J6 := unhide HJ
      have hkb := (unhide HG).kb
      have hkc := (unhide HG).kc
      have dd5 : (W3.setCell ⟨b, 1, none⟩ (.slice a2 m2 c2)).heap[h + 3]? = some (.deferred (some [])) := (Below.heap_setCell _ _ _ _ (by show h + 3 ≠ b; omega)).trans J6.f.dd
      refine ⟨by simp, .inl ⟨_, _, rfl, run_takeDeferred dd5, ?_⟩⟩
      have po : ∀ k, k ≠ h + 3 → ((W3.setCell ⟨b, 1, none⟩ (.slice a2 m2 c2)).putObj (h + 3) (.deferred none)).heap[k]? = (W3.setCell ⟨b, 1, none⟩ (.slice a2 m2 c2)).heap[k]? := fun k hk => World.putObj_heap_other hk
      have pn : ∀ (k : Nat) (cur : Array Value) (t : TypeId), (W3.setCell ⟨b, 1, none⟩ (.slice a2 m2 c2)).heap[k]? = some (.cells cur t (0, 0)) → ((W3.setCell ⟨b, 1, none⟩ (.slice a2 m2 c2)).putObj (h + 3) (.deferred none)).heap[k]? = (W3.setCell ⟨b, 1, none⟩ (.slice a2 m2 c2)).heap[k]? := fun k cur t hc => po k (by rintro rfl; rw [dd5] at hc; simp at hc)
      have own7 := own_keep (W' := W3.setCell ⟨b, 1, none⟩ (.slice a2 m2 c2)) (unhide H1) (fun k cur hc => Below.heap_setCell _ _ _ _ (by
        rintro rfl
        obtain ⟨_, _, hb', _⟩ := ((unhide HG).below (W' := W3) (by rw [unhide HH]; exact J6.f.be)).hb
        rw [hb'] at hc
        simp at hc))
      have own8 := own_keep (W' := (W3.setCell ⟨b, 1, none⟩ (.slice a2 m2 c2)).putObj (h + 3) (.deferred none)) own7 (fun k cur hc => pn k cur 2 hc)
      have G5 := (unhide HG5).keep (W' := (W3.setCell ⟨b, 1, none⟩ (.slice a2 m2 c2)).putObj (h + 3) (.deferred none)) (fun k cur t hc _ => pn k cur t hc)
      have F5 : Fr base b c w (W3.setCell ⟨b, 1, none⟩ (.slice a2 m2 c2)) := (Fr.of_below (by rw [unhide HH]; exact J6.f.be) (by rw [unhide HH]; exact hbs)).set (p := ⟨b, 1, none⟩) (.inl rfl) hkb hkc _
      rw [unhide HH]
      exact ⟨.slice av m cv, by simp [results, Try.results11, go_sem], _, rfl, by rw [unhide HM]; exact own8, G5, ⟨F5.os, F5.tape, F5.output, by rw [World.putObj_size]; exact F5.size, fun k hk => (po k (by omega)).trans (F5.low k hk), fun k o h1 h2 h3 h4 => (po k (by have := lt_of_heap h1; have := unhide HH; omega)).trans (F5.blk k o h1 h2 h3 h4)⟩⟩
    · exact J.elim
theorem poll_all (base b c n : Nat) (ss : List Int) (ws : List Wt) (w : World) (hG : Gr base w b c n ss ws) (hws : ws.length ≤ 16) :
    Calls Try.prog 11 #[.pointer (some ⟨b, 0, none⟩)] w fun e w' => ∃ v, e = .returned v ∧ w'.ownsRow w.heap.size 2 1 v (free ws).length (ints (idsOf (free ws))) ∧ Gr base w' b c n ss (held ws) ∧ Fr base b c w w' :=
  callsIn_wide.1 (poll_in base b c n ss ws w hG hws)
end Go.Proofs.Ytkgcgfnleabkdaa
