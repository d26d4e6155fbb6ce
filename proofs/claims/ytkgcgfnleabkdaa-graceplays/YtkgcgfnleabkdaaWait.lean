/-
  The contract of Waiting: the ids that wait, in their order, in a new row.
-/
import Derived.Test.YtkgcgfnleabkdaaRound
namespace Go.Proofs.Ytkgcgfnleabkdaa
open Go.RowKit Go.Shelf
attribute [local go_sem] Oper.semAt_some

theorem info2 : (Try.prog.info? 2).map (fun i => (i.zero, i.size, i.bytes)) = some (some (.int .i64 0), 1, 8) := by kernel_rfl
theorem grown_keep {W W5 : World} {base : Nat} {e : TypeId} {s n k : Nat} {v : Value} {xs : List Value} {o o' : Obj} (own : W.ownsRow base e s v n xs) (hg : (W.alloc o').grownBy W5 v.ownBlock) (h : W.heap[k]? = some o) (hne : ∀ cur, o ≠ .cells cur e (0, 0)) : W5.heap[k]? = some o := by
  have h3 := hg.block k (by simp; exact Nat.lt_succ_of_lt (lt_of_heap h)) (own_ne own h hne)
  rw [Below.heap_alloc _ _ _ (lt_of_heap h)] at h3
  exact h3.trans h

/-- A loop over what waits, in flight: its record, the block for deferred calls, the box of the iterator; what lay ahead of the call lies as it lay. -/
structure Fl (w W : World) (r : Loop) (h L D x b : Nat) : Prop where
  l : W.heap[L]? = some (.loop r)
  dd : W.heap[D]? = some (.deferred (some []))
  xx : W.heap[x]? = some (.cells #[.pointer (some ⟨b, 0, none⟩)] 22)
  be : Below h w W
theorem Fl.of {w W W' : World} {r r' : Loop} {h L D x b : Nat} (J : Fl w W r h L D x b) (hl : W'.heap[L]? = some (.loop r')) (hb : Below h w W') (hk : ∀ k, k < W.heap.size → k ≠ L → W'.heap[k]? = W.heap[k]?) : Fl w W' r' h L D x b := by
  have kp : ∀ {k : Nat} {o : Obj}, W.heap[k]? = some o → o ≠ .loop r → W'.heap[k]? = some o := fun h1 h2 => (hk _ (lt_of_heap h1) (by rintro rfl; rw [J.l] at h1; exact h2 (Option.some.inj h1).symm)).trans h1
  exact ⟨hl, kp J.dd (by simp), kp J.xx (by simp), hb⟩
theorem put_other {W : World} {r r' : Loop} {L k : Nat} {o : Obj} (hl : W.heap[L]? = some (.loop r)) (h : W.heap[k]? = some o) (hne : ∀ r, o ≠ .loop r) : (W.putObj L (.loop r')).heap[k]? = some o :=
  (World.putObj_heap_other (by rintro rfl; rw [hl] at h; exact hne _ (Option.some.inj h).symm)).trans h
theorem Fl.put {w W : World} {r : Loop} {h L D x b : Nat} (J : Fl w W r h L D x b) (r' : Loop) (hL : h ≤ L) : Fl w (W.putObj L (.loop r')) r' h L D x b :=
  J.of (World.putObj_heap_same (lt_of_heap J.l)) ⟨J.be.os, J.be.tape, J.be.output, by rw [World.putObj_size]; exact J.be.size, fun k hk => (World.putObj_heap_other (by omega)).trans (J.be.block k hk)⟩ (fun _ _ hk => World.putObj_heap_other hk)
theorem own_put {W : World} {r r' : Loop} {L base : Nat} {e : TypeId} {s n : Nat} {v : Value} {xs : List Value} (h : W.ownsRow base e s v n xs) (hl : W.heap[L]? = some (.loop r)) : (W.putObj L (.loop r')).ownsRow base e s v n xs :=
  own_keep h fun k cur hc => (put_other hl hc (by simp)).trans hc.symm

theorem wt_cells {W : World} {base g m cap i : Nat} {ws : List Wt} {x : Wt} (own : W.ownsRow base 58 9 (.slice (some ⟨g, 0, none⟩) m cap) m (rowsOf Wt.row ws)) (hm : ws.length = m) (hi : ws[i]? = some x) :
    (W.cell? ⟨g, i * 9, none⟩ = some (.int .i64 x.id) ∧ ∀ k, k < 8 → W.cell? ⟨g, i * 9 + (1 + k), none⟩ = some (.bool (x.on k))) ∧ (∀ j, W.frozen? ⟨g, j, none⟩ = false) := by
  have h1 := (List.getElem?_eq_some_iff.1 hi).1
  obtain ⟨g', cap', cur, e1, _, hg, _, _, _, hx⟩ := own_open own (by omega)
  simp only [Value.slice.injEq, Option.some.injEq, Addr.mk.injEq] at e1
  obtain ⟨⟨rfl, -, -⟩, -, -⟩ := e1
  refine ⟨⟨?_, fun k hk => ?_⟩, frozen_of hg⟩
  · have := rowsOf_get Wt.row 9 Wt.row_length ws i 0 x hi (by omega)
    exact hx _ _ (by rw [show i * 9 = 9 * i + 0 by omega, this]; rfl)
  · have := rowsOf_get Wt.row 9 Wt.row_length ws i (1 + k) x hi (by omega)
    exact hx _ _ (by rw [show i * 9 + (1 + k) = 9 * i + (1 + k) by omega, this]; rw [Nat.add_comm]; simp only [Wt.row, List.getElem?_cons_succ]; exact bits_get _ k hk)
theorem own_addr {W : World} {base : Nat} {e : TypeId} {s n m cap : Nat} {a : Option Addr} {xs : List Value} (h : W.ownsRow base e s (.slice a m cap) n xs) : ∃ g, (a = none ∧ m = 0 ∧ cap = 0) ∨ a = some ⟨g, 0, none⟩ := by
  obtain ⟨-, ⟨e1, hz⟩ | ⟨g, cap', cur, e1, _⟩⟩ := h
  · simp only [Value.slice.injEq] at e1; obtain ⟨rfl, rfl, rfl⟩ := e1; exact ⟨0, .inl ⟨rfl, rfl, rfl⟩⟩
  · simp only [Value.slice.injEq] at e1; obtain ⟨rfl, rfl, rfl⟩ := e1; exact ⟨g, .inr rfl⟩

abbrev idsOf (ws : List Wt) : List Int := ws.map Wt.id
theorem ids_succ {ws : List Wt} {i : Nat} {x : Wt} (h : ws[i]? = some x) : idsOf (ws.take (i + 1)) = idsOf (ws.take i) ++ [x.id] := by
  rw [List.take_add_one, h]; simp

/-- One number more in a box's row. -/
theorem box_more {w W : World} {r : Loop} {h L D x b H : Nat} {v : Value} {xs : List Value} {o' : Obj} {t : TypeId} {e : TypeId} {s : Nat} {n : Nat} {news : List Value} {v' : Value} {W5 : World} (J : Fl w W r h L D x b) (k1 : W.heap[H]? = some (.cells #[v] t)) (own : W.ownsRow h e s v n xs)
    (hg : (W.alloc o').grownBy W5 v.ownBlock) (own' : W5.ownsRow h e s v' (n + 1) (xs ++ news)) (hH : h ≤ H) (ht : t ≠ e) (hx : (22 : TypeId) ≠ e) (ht2 : t ≠ 22) :
    Fl w (W5.setCell ⟨H, 0, none⟩ v') r h L D x b ∧ W5.heap[H]? = some (.cells #[v] t) ∧ (W5.setCell ⟨H, 0, none⟩ v').heap[H]? = some (.cells #[v'] t) ∧ (W5.setCell ⟨H, 0, none⟩ v').ownsRow h e s v' (n + 1) (xs ++ news) := by
  have hs := J.be.size
  have H5 := grown_keep own hg k1 (by intro cur hc; simp at hc; exact ht hc.2)
  have kp : ∀ {k : Nat} {o : Obj}, W.heap[k]? = some o → (∀ cur, o ≠ .cells cur e (0, 0)) → k ≠ H → (W5.setCell ⟨H, 0, none⟩ v').heap[k]? = some o :=
    fun h1 h2 h3 => (Below.heap_setCell _ _ _ _ h3).trans (grown_keep own hg h1 h2)
  have ne : ∀ {k : Nat} {o : Obj}, W.heap[k]? = some o → (∀ cur, o ≠ .cells cur t (0, 0)) → k ≠ H := by
    rintro k o h1 h2 rfl
    rw [k1] at h1
    exact h2 _ (Option.some.inj h1).symm
  have hhW : h ≤ W.heap.size := by have := lt_of_heap k1; omega
  have own1 : (W.alloc o').ownsRow h e s v n xs := own_keep own fun k cur hc => Below.heap_alloc _ _ _ (lt_of_heap hc)
  have hbe : Below h w W5 := below_grown (J.be.alloc hhW _) own1 hg (by simp; omega)
  refine ⟨⟨kp J.l (by simp) (ne J.l (by simp)), kp J.dd (by simp) (ne J.dd (by simp)), kp J.xx (by intro cur hc; simp at hc; exact hx hc.2) (ne J.xx (by intro cur hc; simp at hc; exact ht2 hc.2.symm)), hbe.setCell (p := ⟨H, 0, none⟩) hH _⟩, H5, ?_, ?_⟩
  · rw [heap_set H5]; simp
  · refine own_keep own' fun k cur hc => Below.heap_setCell _ _ _ _ ?_
    rintro rfl
    rw [H5] at hc
    simp at hc
    exact ht hc.2
theorem setup (w : World) (r : Loop) : ((w.alloc (.deferred (some []))).alloc (.loop r)).heap[w.heap.size + 1]? = some (.loop r) ∧ ((w.alloc (.deferred (some []))).alloc (.loop r)).heap[w.heap.size]? = some (.deferred (some [])) ∧ Below w.heap.size w ((w.alloc (.deferred (some []))).alloc (.loop r)) :=
  ⟨putAll _ _ (by simp), (Below.heap_alloc _ _ _ (by simp)).trans (putAll _ _ rfl), ((Below.refl _ _).alloc (Nat.le_refl _) _).alloc (by simp) _⟩

/-- What lies while Waiting goes over what waits. -/
structure WJ (w W : World) (r : Loop) (h b : Nat) (ws : List Wt) (i : Nat) : Prop where
  f : Fl w W r h (h + 3) (h + 2) (h + 1) b
  ow : ∃ v, W.heap[h]? = some (.cells #[v] 29) ∧ W.ownsRow h 2 1 v (idsOf (ws.take i)).length (ints (idsOf (ws.take i)))

set_option maxRecDepth 100000 in
set_option maxHeartbeats 1000000 in
theorem waits_in (base b c n : Nat) (ss : List Int) (ws : List Wt) (w : World) (hG : Gr base w b c n ss ws) (hws : ws.length ≤ 16) :
    CallsIn Fence.wide 4 Try.prog 16 #[.pointer (some ⟨b, 0, none⟩)] w fun e w' => ∃ v, e = .returned v ∧ w'.ownsRow w.heap.size 2 1 v ws.length (ints (idsOf ws)) ∧ Below w.heap.size w w' := by
  have hro : Fence.wide.round = none := rfl
  obtain ⟨a, cap, a0, a1, af, ag, own⟩ := hG.cells
  obtain ⟨g, ha⟩ := own_addr own
  have hbl := hG.lt
  have HG := hide hG
  obtain ⟨i0, hi, hz0, hz1, hz2⟩ := info_parts info2
  clear hG a0 af ag own
  refine callsIn_of_wp_marks Try.func16 rfl trivial ?_ hro
  simp only [Try.ntmps16, List.size_toArray, List.length_cons, List.length_nil, Nat.reduceAdd, Nat.reduceSub, Array.replicate_succ, Array.replicate_zero, List.push_toArray, List.append_toArray, List.nil_append, List.cons_append]
  gi_wp2_with fail
  refine ⟨trivial, (callsIn_wide.2 (waiting_any b _)).mono ?_⟩
  rintro e w' ⟨rfl, rfl⟩
  gi_wp2_with fail
  obtain ⟨V, hV, hsz, g0, g1, hB⟩ := two0 w (.cells #[.slice none 0 0] 29) (.cells #[.pointer (some ⟨b, 0, none⟩)] 22)
  rw [hV]
  clear hV
  generalize hh : w.heap.size = h at *
  have HH : Hid (w.heap.size = h) := hh
  refine wpIn_range_own hro (by omega) (gf := 35) (lb := #[.pointer (some ⟨h + 1, 0, none⟩)]) rfl trivial (enters_of Try.func35 (by kernel_rfl) rfl) ?_
  intro r hF hst hpe htm hps has hbo
  obtain ⟨L1, D1, hB2⟩ := setup V r
  rw [hsz] at L1 D1 ⊢
  generalize ((V.alloc (.deferred (some []))).alloc (.loop r)) = W1 at L1 D1 hB2 ⊢
  have J0 : WJ w W1 r h b ws 0 := ⟨⟨L1, D1, (hB2.block _ (by omega)).trans g1, hB.trans (hB2.mono (by omega))⟩, ⟨_, (hB2.block _ (by omega)).trans g0, World.ownsRow_nil _ _ _ _⟩⟩
  clear L1 D1 hB2 g0 g1 hB
  refine (waiting_go (h + 3) (h + 1) b g ws.length cap a W1 (fun i W => WJ w W r h b ws i) (fun _ => False) (by omega) J0 ha (fun i W' J => ⟨by rw [cell_of J.f.xx]; rfl, (World.cell?_of_block (J.f.be.block b (by omega))).trans a1⟩) ?_).mono ?_
  · intro i W2 J him
    have hG2 : Gr base W2 b c n ss ws := (unhide HG).below (by rw [unhide HH]; exact J.f.be)
    refine yield_own hF hst hpe htm hps has hbo rfl J.f.l ?_
    clear htm hps has hbo hst hpe J0
    intro rb
    gi_wp2
    refine ⟨J.f.l, ?_⟩
    have F4 := J.f.put rb (by omega)
    obtain ⟨v, k1, own1⟩ := J.ow
    have k4 := put_other (r' := rb) J.f.l k1 (by simp)
    have own4 := own_put (r' := rb) own1 J.f.l
    have G4 := hG2.keep (W' := W2.putObj (h + 3) (.loop rb)) fun k cur t hc _ => (put_other J.f.l hc (by simp)).trans hc.symm
    generalize W2.putObj (h + 3) (.loop rb) = W4 at *
    obtain ⟨x, hx⟩ : ∃ x, ws[i]? = some x := ⟨_, List.getElem?_eq_getElem him⟩
    obtain ⟨a', cap', _, a1', _, _, ownw⟩ := G4.cells
    have hbb := (World.cell?_of_block (a := ⟨b, 1, none⟩) (F4.be.block b (by omega))).trans a1
    rw [a1'] at hbb
    simp only [Option.some.injEq, Value.slice.injEq] at hbb
    obtain ⟨rfl, -, rfl⟩ := hbb
    have ha' : a' = some ⟨g, 0, none⟩ := by
      rcases ha with ⟨_, hz, _⟩ | e
      · omega
      · exact e
    subst ha'
    obtain ⟨⟨c0, _⟩, _⟩ := wt_cells ownw rfl hx
    have e0 : W4.cell? ⟨h, 0, none⟩ = some v := by rw [cell_of k4]; rfl
    have hl := List.length_take (i := i) (l := ws)
    have hil : (idsOf (ws.take i)).length ≤ 16 := by simp; omega
    have own5 := own_keep (W' := W4.drew.alloc (.cells #[.int .i64 x.id] 2)) own4 (fun k cur hc => Below.heap_alloc W4.drew _ _ (lt_of_heap hc))
    have hs4 : h ≤ W4.heap.size := by have := lt_of_heap k4; omega
    obtain ⟨v', W5, hrun, own6, hgr, -, -⟩ := run_append_own_at (P := Try.prog) (W4.drew.alloc (.cells #[.int .i64 x.id] 2)) h 29 29 2 i0 (.int .i64 0) 1 8 Try.underlying29 hi hz0 hz1 hz2 rfl (by decide) v _ _ own5 ⟨W4.heap.size, 0, none⟩ 1 1 [.int .i64 x.id] rfl (cell_one_new W4.drew _ _) (by intro u hu; simp at hu; subst hu; rfl) (by unfold maxLen; omega) (by omega) (by simp; omega)
    have hE : (idsOf (ws.take (i + 1))) = idsOf (ws.take i) ++ [x.id] := ids_succ hx
    have e0d : W4.drew.cell? ⟨h, 0, none⟩ = some v := e0
    have c0d : W4.drew.cell? ⟨g, i * 9, none⟩ = some (.int .i64 x.id) := c0
    have Fd : Fl w W4.drew rb h (h + 3) (h + 2) (h + 1) b := ⟨F4.l, F4.dd, F4.xx, below_drew F4.be⟩
    have k4d : W4.drew.heap[h]? = some (.cells #[v] 29) := k4
    have own4d : W4.drew.ownsRow h 2 1 v _ _ := own_keep own4 fun _ _ _ => rfl
    obtain ⟨F5, H5, k5, own7⟩ := box_more Fd k4d own4d hgr own6 (by omega) (by decide) (by decide) (by decide)
    have e0x : (W4.drew.alloc (.cells #[.int .i64 x.id] 2)).cell? ⟨h, 0, none⟩ = some v := (World.cell?_alloc_past _ _ _ (lt_of_heap k4)).trans e0
    have ef5 : W5.frozen? ⟨h, 0, none⟩ = false := frozen_of H5 0
    have ec5 : W5.cell? ⟨h, 0, none⟩ = some v := by rw [cell_of H5]; rfl
    have hv : ∃ g' cp, v' = .slice (some ⟨g', 0, none⟩) ((idsOf (ws.take i)).length + 1) cp := by
      obtain ⟨-, ⟨rfl, hz⟩ | ⟨g', cap, cur, rfl, _⟩⟩ := own6
      · omega
      · exact ⟨g', cap, rfl⟩
    obtain ⟨g', cp, rfl⟩ := hv
    obtain ⟨m, hm⟩ : ∃ m, (idsOf (ws.take i)).length = m := ⟨_, rfl⟩
    rw [hm] at hrun own6 own7 F5 k5
    refine wpIn_mono (Q := fun e _ w1 => e = .normal ∧ w1 = W5.setCell ⟨h, 0, none⟩ (.slice (some ⟨g', 0, none⟩) (m + 1) cp)) ?_ ?_
    · have hsd : W4.drew.heap.size = W4.heap.size := rfl
      rw [← hsd] at hrun
      clear hsd J hG2 k1 own1 F4 k4 own4 G4 hx own5 own6 hgr own7 k5 F5 H5 hE k4d own4d Fd e0 c0 a1 a1' ha ownw HG hil hl hs4 hm
      gi_wp2_with fail
      refine wpIn_region_round (by kernel_rfl) (by kernel_rfl) ?_
      generalize W4.drew = X at *
      refine wpAnyIn_take (i := 1) (v := ?_) rfl rfl (by kernel_rfl) (by kernel_rfl) (by kernel_rfl) (fun _ _ _ h => h) ⟨Or.inl ⟨by rfl, ?hy⟩, fun _ => rfl⟩ ?_
      case hy => intro w; go_simp; all_goals with_reducible rfl
      refine wpAnyIn_take (i := 2) (v := ?_) rfl rfl (by kernel_rfl) (by kernel_rfl) (by kernel_rfl) (fun _ _ _ h => h) ⟨Or.inl ⟨by rfl, ?hy⟩, fun _ => rfl⟩ ?_
      case hy => intro w; go_simp; all_goals with_reducible rfl
      refine wpAnyIn_take (i := 3) (v := ?_) rfl rfl (by kernel_rfl) (by kernel_rfl) (by kernel_rfl) (fun _ _ _ h => h) ⟨Or.inl ⟨by rfl, ?hy⟩, fun _ => rfl⟩ ?_
      case hy => intro w; go_simp; all_goals with_reducible rfl
      refine wpAnyIn_ready (rs := [0, 4]) (by kernel_rfl) (by simp) ?_
      refine AllReadyIn.cons rfl (fun K hK => ?_) ?_
      · go_simp
        refine hK _ _ ?_
        clear hK K
        refine wpAnyIn_ready (rs := [4]) (by kernel_rfl) (by simp) ?_
        refine AllReadyIn.cons rfl (fun K hK => ?_) ?_
        · go_simp
          refine hK _ _ ?_
          clear hK K
          refine wpAnyIn_ready (rs := [5]) (by kernel_rfl) (by simp) ?_
          refine AllReadyIn.cons rfl (fun K hK => ?_) ?_
          · go_simp
            refine hK _ _ ?_
            clear hK K
            refine wpAnyIn_ready (rs := [6]) (by kernel_rfl) (by simp) ?_
            refine AllReadyIn.cons rfl (fun K hK => ?_) ?_
            · refine stepIn_append_eq (by rfl) _ _ 29 (by rfl) 29 (by rfl) _ _ (by rfl) (by rfl) _ _ hrun ?_
              refine hK _ _ ?_
              clear hK K
              refine wpAnyIn_ready (rs := [7]) (by kernel_rfl) (by simp) ?_
              refine AllReadyIn.cons rfl (fun K hK => ?_) ?_
              · go_simp
                refine hK _ _ ?_
                clear hK K
                refine wpAnyIn_done (by kernel_rfl) ?_ _
                exact ⟨rfl, rfl⟩
              exact AllReadyIn.nil
            exact AllReadyIn.nil
          exact AllReadyIn.nil
        exact AllReadyIn.nil
      refine AllReadyIn.cons rfl (fun K hK => ?_) ?_
      · go_simp
        refine hK _ _ ?_
        clear hK K
        refine wpAnyIn_ready (rs := [0, 5]) (by kernel_rfl) (by simp) ?_
        refine AllReadyIn.cons rfl (fun K hK => ?_) ?_
        · go_simp
          refine hK _ _ ?_
          clear hK K
          refine wpAnyIn_ready (rs := [5]) (by kernel_rfl) (by simp) ?_
          refine AllReadyIn.cons rfl (fun K hK => ?_) ?_
          · go_simp
            refine hK _ _ ?_
            clear hK K
            refine wpAnyIn_ready (rs := [6]) (by kernel_rfl) (by simp) ?_
            refine AllReadyIn.cons rfl (fun K hK => ?_) ?_
            · refine stepIn_append_eq (by rfl) _ _ 29 (by rfl) 29 (by rfl) _ _ (by rfl) (by rfl) _ _ hrun ?_
              refine hK _ _ ?_
              clear hK K
              refine wpAnyIn_ready (rs := [7]) (by kernel_rfl) (by simp) ?_
              refine AllReadyIn.cons rfl (fun K hK => ?_) ?_
              · go_simp
                refine hK _ _ ?_
                clear hK K
                refine wpAnyIn_done (by kernel_rfl) ?_ _
                exact ⟨rfl, rfl⟩
              exact AllReadyIn.nil
            exact AllReadyIn.nil
          exact AllReadyIn.nil
        refine AllReadyIn.cons rfl (fun K hK => ?_) ?_
        · go_simp
          refine hK _ _ ?_
          clear hK K
          refine wpAnyIn_ready (rs := [0]) (by kernel_rfl) (by simp) ?_
          refine AllReadyIn.cons rfl (fun K hK => ?_) ?_
          · go_simp
            refine hK _ _ ?_
            clear hK K
            refine wpAnyIn_ready (rs := [6]) (by kernel_rfl) (by simp) ?_
            refine AllReadyIn.cons rfl (fun K hK => ?_) ?_
            · refine stepIn_append_eq (by rfl) _ _ 29 (by rfl) 29 (by rfl) _ _ (by rfl) (by rfl) _ _ hrun ?_
              refine hK _ _ ?_
              clear hK K
              refine wpAnyIn_ready (rs := [7]) (by kernel_rfl) (by simp) ?_
              refine AllReadyIn.cons rfl (fun K hK => ?_) ?_
              · go_simp
                refine hK _ _ ?_
                clear hK K
                refine wpAnyIn_done (by kernel_rfl) ?_ _
                exact ⟨rfl, rfl⟩
              exact AllReadyIn.nil
            exact AllReadyIn.nil
          exact AllReadyIn.nil
        exact AllReadyIn.nil
      exact AllReadyIn.nil
    · rintro e a2 w1 ⟨rfl, rfl⟩
      refine ⟨rfl, F5.l, .inl ⟨trivial, F5.put r (by omega), _, put_other F5.l k5 (by simp), ?_⟩⟩
      rw [hE]
      have own8 := own_put (r' := r) own7 F5.l
      rw [List.length_append, hm]
      simpa [ints] using own8
  · rintro e W2 ⟨rfl, J | J⟩
    · refine ⟨⟨_, rfl⟩, J.f.l, ?_⟩
      have F6 := J.f.put { r with state := .exhausted } (by omega)
      obtain ⟨v, k1, own1⟩ := J.ow
      have k6 := put_other (r' := { r with state := .exhausted }) J.f.l k1 (by simp)
      have own6 := own_put (r' := { r with state := .exhausted }) own1 J.f.l
      generalize W2.putObj (h + 3) (.loop { r with state := .exhausted }) = W3 at *
      have e0 : W3.cell? ⟨h, 0, none⟩ = some v := by rw [cell_of k6]; rfl
      rw [List.take_length] at own6
      simp only [List.length_map] at own6
      have H6 := hide own6
      have HF := hide F6
      clear J J0 F6 k6 own6 htm hps has hbo hst hpe k1 own1
      gi_wp2_with fail
      refine ⟨by simp, .inl ⟨_, _, rfl, run_takeDeferred (unhide HF).dd, ?_⟩⟩
      have own7 := own_keep (W' := W3.putObj (h + 2) (.deferred none)) (unhide H6) (fun k cur hc => World.putObj_heap_other (by rintro rfl; rw [(unhide HF).dd] at hc; simp at hc))
      have hb := (unhide HF).be
      have be7 : Below h w (W3.putObj (h + 2) (.deferred none)) := ⟨hb.os, hb.tape, hb.output, by rw [World.putObj_size]; exact hb.size, fun k hk => (World.putObj_heap_other (by omega)).trans (hb.block k hk)⟩
      rw [unhide HH]
      exact ⟨v, by simp [results, Try.results16, go_sem], v, rfl, own7, be7⟩
    · exact J.elim
theorem waits_all (base b c n : Nat) (ss : List Int) (ws : List Wt) (w : World) (hG : Gr base w b c n ss ws) (hws : ws.length ≤ 16) :
    Calls Try.prog 16 #[.pointer (some ⟨b, 0, none⟩)] w fun e w' => ∃ v, e = .returned v ∧ w'.ownsRow w.heap.size 2 1 v ws.length (ints (idsOf ws)) ∧ Below w.heap.size w w' :=
  callsIn_wide.1 (waits_in base b c n ss ws w hG hws)
end Go.Proofs.Ytkgcgfnleabkdaa
