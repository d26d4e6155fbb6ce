/-
  The contract of release: nothing waits for that reader any more; nothing else is turned.
-/
import Derived.Test.YtkgcgfnleabkdaaBlk
namespace Go.Proofs.Ytkgcgfnleabkdaa
open Go.RowKit Go.Shelf
attribute [local go_sem] Oper.semAt_some

/-- It waits for that reader no more. -/
def clr (k : Nat) (x : Wt) : Wt := ⟨x.id, put x.on k false⟩
def mix (k : Nat) (ws : List Wt) (i : Nat) : List Wt := (ws.take i).map (clr k) ++ ws.drop i
theorem mix_zero (k : Nat) (ws : List Wt) : mix k ws 0 = ws := by simp [mix]
theorem mix_full (k : Nat) (ws : List Wt) : mix k ws ws.length = ws.map (clr k) := by simp [mix]
theorem mix_len (k : Nat) (ws : List Wt) (i : Nat) : (mix k ws i).length = ws.length := by simp [mix]; omega
theorem mix_get (k : Nat) (ws : List Wt) (i : Nat) (h : i < ws.length) : (mix k ws i)[i]? = some ws[i] := by
  unfold mix
  rw [List.getElem?_append_right (by simp; omega)]
  simp
  rw [Nat.min_eq_left (by omega)]; simp [h]
theorem mix_succ (k : Nat) (ws : List Wt) (i : Nat) (h : i < ws.length) : (mix k ws i).set i (clr k ws[i]) = mix k ws (i + 1) := by
  unfold mix
  rw [List.set_append_right _ _ (by simp; omega)]
  simp only [List.length_map, List.length_take, Nat.min_eq_left (Nat.le_of_lt h), Nat.sub_self]
  rw [List.drop_eq_getElem_cons h, List.set_cons_zero, List.take_add_one, List.getElem?_eq_getElem h]
  simp only [List.map_append, Option.toList_some, List.map_cons, List.map_nil, List.append_assoc, List.singleton_append]

theorem own_set {W : World} {base g m cap i j : Nat} {e : TypeId} {s : Nat} {xs : List Value} {v : Value} (h : W.ownsRow base e s (.slice (some ⟨g, i, none⟩) m cap) m xs) : (W.setCell ⟨g, j, none⟩ v).ownsRow base e s (.slice (some ⟨g, i, none⟩) m cap) m (xs.set j v) := by
  obtain ⟨h0, ⟨e1, _⟩ | ⟨g', cap', cur, e1, hgb, hgg, hcap, hcm, hcs, htk⟩⟩ := h
  · simp at e1
  · simp only [Value.slice.injEq, Option.some.injEq, Addr.mk.injEq] at e1
    obtain ⟨⟨rfl, rfl, -⟩, -, rfl⟩ := e1
    refine ⟨by simp [h0], .inr ⟨g, cap, _, rfl, hgb, heap_set hgg j v, hcap, hcm, by simp [hcs], ?_⟩⟩
    rw [← htk]
    simp [List.take_set]
theorem bit_set {W : World} {base g m cap i k : Nat} {ws : List Wt} {x : Wt} (own : W.ownsRow base 58 9 (.slice (some ⟨g, 0, none⟩) m cap) m (rowsOf Wt.row ws)) (hi : ws[i]? = some x) (hk : k < 8) (v : Bool) :
    (W.setCell ⟨g, i * 9 + 1 + k, none⟩ (.bool v)).ownsRow base 58 9 (.slice (some ⟨g, 0, none⟩) m cap) m (rowsOf Wt.row (ws.set i ⟨x.id, put x.on k v⟩)) := by
  have := own_set (v := .bool v) own (j := i * 9 + 1 + k)
  rw [show i * 9 + 1 + k = 9 * i + (1 + k) by omega] at this ⊢
  rw [rowsOf_set Wt.row 9 Wt.row_length ws i (1 + k) x ⟨x.id, put x.on k v⟩ (.bool v) hi (by omega)] at this
  · exact this
  · rw [Nat.add_comm]; simp only [Wt.row, List.set_cons_succ]; rw [bits_set _ _ _ hk]

/-- What lies while release goes over what waits. -/
structure RJ (base : Nat) (w W : World) (r : Loop) (h b c n k cap : Nat) (a : Option Addr) (ws : List Wt) (i : Nat) : Prop where
  l : W.heap[h + 3]? = some (.loop r)
  dd : W.heap[h + 2]? = some (.deferred (some []))
  xx : W.heap[h + 1]? = some (.cells #[.pointer (some ⟨b, 0, none⟩)] 22)
  k0 : W.heap[h]? = some (.cells #[.int .i64 (k : Int)] 3)
  hb : W.heap[b]? = some (.cells #[.slice (some ⟨c, 0, none⟩) n n, .slice a ws.length cap] 53)
  hc : W.heap[c]? = w.heap[c]?
  own : W.ownsRow base 58 9 (.slice a ws.length cap) ws.length (rowsOf Wt.row (mix k ws i))
  fr : Fr base b c w W
theorem RJ.put {base : Nat} {w W : World} {r : Loop} {h b c n k cap : Nat} {a : Option Addr} {ws : List Wt} {i : Nat} (J : RJ base w W r h b c n k cap a ws i) (r' : Loop) (hw : w.heap.size = h) (hbl : b < h ∧ c < h) (hbase : base ≤ h) : RJ base w (W.putObj (h + 3) (.loop r')) r' h b c n k cap a ws i := by
  have po : ∀ k, k ≠ h + 3 → (W.putObj (h + 3) (.loop r')).heap[k]? = W.heap[k]? := fun k hk => World.putObj_heap_other hk
  refine ⟨World.putObj_heap_same (lt_of_heap J.l), (po _ (by omega)).trans J.dd, (po _ (by omega)).trans J.xx, (po _ (by omega)).trans J.k0, (po _ (by omega)).trans J.hb, (po _ (by omega)).trans J.hc, own_put J.own J.l, ?_⟩
  exact ⟨J.fr.os, J.fr.tape, J.fr.output, by rw [World.putObj_size]; exact J.fr.size, fun k hk => (po k (by omega)).trans (J.fr.low k hk), fun k o h1 h2 h3 h4 => (po k (by have := lt_of_heap h1; omega)).trans (J.fr.blk k o h1 h2 h3 h4)⟩

set_option maxRecDepth 100000 in
set_option maxHeartbeats 1000000 in
theorem release_in (base b c n k : Nat) (ss : List Int) (ws : List Wt) (w : World) (hG : Gr base w b c n ss ws) (hws : ws.length ≤ 16) (hk : k < 8) :
    CallsIn Fence.wide 4 Try.prog 32 #[.pointer (some ⟨b, 0, none⟩), .int .i64 (k : Int)] w fun e w' => e = .returned (.tuple #[]) ∧ Gr base w' b c n ss (ws.map (clr k)) ∧ Fr base b c w w' := by
  have hro : Fence.wide.round = none := rfl
  obtain ⟨a, cap, hb0, own⟩ := hG.hb
  obtain ⟨g, ha⟩ := own_addr own
  have hbl := hG.lt
  have hbs := hG.base_le
  have HG := hide hG
  clear hG
  refine callsIn_of_wp_marks Try.func32 rfl trivial ?_ hro
  simp only [Try.ntmps32, List.size_toArray, List.length_cons, List.length_nil, Nat.reduceAdd, Nat.reduceSub, Array.replicate_succ, Array.replicate_zero, List.push_toArray, List.append_toArray, List.nil_append, List.cons_append]
  gi_wp2_with fail
  refine ⟨trivial, (callsIn_wide.2 (waiting_any b _)).mono ?_⟩
  rintro e w' ⟨rfl, rfl⟩
  gi_wp2_with fail
  obtain ⟨V, hV, hsz, g0, g1, hB⟩ := two0 w (.cells #[.int .i64 (k : Int)] 3) (.cells #[.pointer (some ⟨b, 0, none⟩)] 22)
  rw [hV]
  clear hV
  generalize hh : w.heap.size = h at *
  have HH : Hid (w.heap.size = h) := hh
  refine wpIn_range_own hro (by omega) (gf := 35) (lb := #[.pointer (some ⟨h + 1, 0, none⟩)]) rfl trivial (enters_of Try.func35 (by kernel_rfl) rfl) ?_
  intro r hF hst hpe htm hps has hbo
  obtain ⟨L1, D1, hB2⟩ := setup V r
  rw [hsz] at L1 D1 ⊢
  generalize ((V.alloc (.deferred (some []))).alloc (.loop r)) = W1 at L1 D1 hB2 ⊢
  have hBw : Below h w W1 := hB.trans (hB2.mono (by omega))
  have J0 : RJ base w W1 r h b c n k cap a ws 0 := ⟨L1, D1, (hB2.block _ (by omega)).trans g1, (hB2.block _ (by omega)).trans g0, (hBw.block _ hbl.1).trans hb0, hBw.block _ hbl.2, by rw [mix_zero]; exact own_keep own fun k cur hc => hBw.block k (by have := lt_of_heap hc; omega), .of_below (by rw [hh]; exact hBw) (by omega)⟩
  clear L1 D1 hB2 g0 g1 hB hBw own hb0
  refine (waiting_go (h + 3) (h + 1) b g ws.length cap a W1 (fun i W => RJ base w W r h b c n k cap a ws i) (fun _ => False) (by omega) J0 ha (fun i W' J => ⟨by rw [cell_of J.xx]; rfl, by rw [cell_of J.hb]; rfl⟩) ?_).mono ?_
  · intro i W2 J him
    refine yield_own hF hst hpe htm hps has hbo rfl J.l ?_
    clear htm hps has hbo hst hpe J0
    intro rb
    gi_wp2
    refine ⟨J.l, ?_⟩
    have J4 := J.put rb hh hbl hbs
    generalize W2.putObj (h + 3) (.loop rb) = W4 at *
    clear J
    obtain rfl : a = some ⟨g, 0, none⟩ := by
      rcases ha with ⟨_, hz, _⟩ | e
      · omega
      · exact e
    have hx := mix_get k ws i him
    obtain ⟨⟨-, cs⟩, cf⟩ := wt_cells (J4.own) (mix_len k ws i) hx
    have r0 : W4.drew.cell? ⟨h, 0, none⟩ = some (.int .i64 (k : Int)) := by rw [cell_of (W := W4.drew) J4.k0]; rfl
    have c1 : W4.drew.cell? ⟨g, i * 9 + 1 + k, none⟩ = some (.bool ((ws[i]).on k)) := by rw [Nat.add_assoc]; exact cs k hk
    have f1 : W4.drew.frozen? ⟨g, i * 9 + 1 + k, none⟩ = false := cf _
    have hk8 : (k : Int) < 8 := by omega
    have hk0 : (0 : Int) ≤ (k : Int) := by omega
    have own5 := bit_set J4.own hx hk false
    have em := mix_succ k ws i him
    unfold clr at em
    rw [em] at own5
    obtain ⟨cur, hgc⟩ : ∃ cur, W4.heap[g]? = some (.cells cur 58) := by
      obtain ⟨g', cap', cur, e1, _, hg, _⟩ := own_open J4.own (by omega)
      simp only [Value.slice.injEq, Option.some.injEq, Addr.mk.injEq] at e1
      obtain ⟨⟨rfl, -, -⟩, -, -⟩ := e1
      exact ⟨cur, hg⟩
    have kp : ∀ {k' : Nat} {o : Obj}, W4.heap[k']? = some o → (∀ cur, o ≠ .cells cur 58 (0, 0)) → (W4.drew.setCell ⟨g, i * 9 + 1 + k, none⟩ (.bool false)).heap[k']? = some o := by
      intro k' o h1 h2
      refine (Below.heap_setCell W4.drew _ _ _ ?_).trans h1
      rintro rfl
      rw [hgc] at h1
      exact h2 _ (Option.some.inj h1).symm
    have hgb : base ≤ g := by
      obtain ⟨g', cap', cur, e1, hgb, _⟩ := own_open J4.own (by omega)
      simp only [Value.slice.injEq, Option.some.injEq, Addr.mk.injEq] at e1
      omega
    have hcc : ∃ cur, W4.heap[c]? = some (.cells cur 3) := ⟨_, J4.hc.trans (unhide HG).hc⟩
    obtain ⟨curc, hcc⟩ := hcc
    have J5 : RJ base w (W4.drew.setCell ⟨g, i * 9 + 1 + k, none⟩ (.bool false)) rb h b c n k cap (some ⟨g, 0, none⟩) ws (i + 1) :=
      ⟨kp J4.l (by simp), kp J4.dd (by simp), kp J4.xx (by simp), kp J4.k0 (by simp), kp J4.hb (by simp), (kp hcc (by simp)).trans (hcc.symm.trans J4.hc), own5,
       ⟨J4.fr.os, J4.fr.tape, J4.fr.output, by have := J4.fr.size; simpa [World.setCell] using this, fun k' hk' => (Below.heap_setCell W4.drew _ _ _ (by show k' ≠ g; omega)).trans (J4.fr.low k' hk'), fun k' o h1 h2 h3 h4 => kp (J4.fr.blk k' o h1 h2 h3 h4) h4⟩⟩
    have J6 := J5.put r hh hbl hbs
    have J5l := J5.l
    have FIN := hide J6
    clear J4 J5 J6 own5 em kp hgc hcc hx cs cf hgb HG ha
    gi_wp2_with fail
    refine wpIn_region_round (by kernel_rfl) (by kernel_rfl) ?_
    generalize W4.drew = X at *
    refine wpAnyIn_take (i := 0) (v := ?_) rfl rfl (by kernel_rfl) (by kernel_rfl) (by kernel_rfl) (fun _ _ _ h => h) ⟨Or.inl ⟨by rfl, ?hy⟩, fun _ => rfl⟩ ?_
    case hy => intro w; go_simp; all_goals with_reducible rfl
    refine wpAnyIn_take (i := 2) (v := ?_) rfl rfl (by kernel_rfl) (by kernel_rfl) (by kernel_rfl) (fun _ _ _ h => h) ⟨Or.inl ⟨by rfl, ?hy⟩, fun _ => rfl⟩ ?_
    case hy => intro w; go_simp; all_goals with_reducible rfl
    refine wpAnyIn_take (i := 3) (v := ?_) rfl rfl (by kernel_rfl) (by kernel_rfl) (by kernel_rfl) (fun _ _ _ h => h) ⟨Or.inl ⟨by rfl, ?hy⟩, fun _ => rfl⟩ ?_
    case hy => intro w; go_simp; all_goals with_reducible rfl
    refine wpAnyIn_ready (rs := [1]) (by kernel_rfl) (by simp) ?_
    refine AllReadyIn.cons rfl (fun K hK => ?_) ?_
    · go_simp
      refine hK _ _ ?_
      clear hK K
      refine wpAnyIn_ready (rs := [4]) (by kernel_rfl) (by simp) ?_
      refine AllReadyIn.cons rfl (fun K hK => ?_) ?_
      · go_simp
        refine hK _ _ ?_
        clear hK K
        refine wpAnyIn_ready (rs := [5]) (by kernel_rfl) (by simp) ?_
        refine AllReadyIn.cons rfl (fun K hK => ?_) ?_
        · go_simp
          refine hK _ _ ?_
          clear hK K
          refine wpAnyIn_done (by kernel_rfl) ?_ _
          exact ⟨rfl, J5l, .inl ⟨trivial, unhide FIN⟩⟩
        exact AllReadyIn.nil
      exact AllReadyIn.nil
    exact AllReadyIn.nil
  · rintro e W2 ⟨rfl, J | J⟩
    · refine ⟨⟨_, rfl⟩, J.l, ?_⟩
      have J6 := J.put { r with state := .exhausted } hh hbl hbs
      generalize W2.putObj (h + 3) (.loop { r with state := .exhausted }) = W3 at *
      have HJ := hide J6
      clear J J0 J6 htm hps has hbo hst hpe
      gi_wp2_with fail
      have J6 := unhide HJ
      refine ⟨by simp, .inl ⟨_, _, rfl, run_takeDeferred J6.dd, ?_⟩⟩
      have po : ∀ k, k ≠ h + 2 → (W3.putObj (h + 2) (.deferred none)).heap[k]? = W3.heap[k]? := fun k hk => World.putObj_heap_other hk
      have own7 := own_keep (W' := W3.putObj (h + 2) (.deferred none)) J6.own (fun k cur hc => po k (by rintro rfl; rw [J6.dd] at hc; simp at hc))
      rw [mix_full] at own7
      have G := unhide HG
      have el : (ws.map (clr k)).length = ws.length := by simp
      refine ⟨.tuple #[], by simp [results, Try.results32], rfl, ⟨⟨a, cap, ?_, ?_⟩, ?_, G.len, G.lo, G.hi, G.kb, G.kc⟩, ?_⟩
      · rw [el]; exact (po _ (by omega)).trans J6.hb
      · rw [el]; exact own7
      · exact (po _ (by omega)).trans (J6.hc.trans G.hc)
      · exact ⟨J6.fr.os, J6.fr.tape, J6.fr.output, by rw [World.putObj_size]; exact J6.fr.size, fun k hk => (po k (by omega)).trans (J6.fr.low k hk), fun k o h1 h2 h3 h4 => (po k (by have := lt_of_heap h1; omega)).trans (J6.fr.blk k o h1 h2 h3 h4)⟩
    · exact J.elim
theorem release_all (base b c n k : Nat) (ss : List Int) (ws : List Wt) (w : World) (hG : Gr base w b c n ss ws) (hws : ws.length ≤ 16) (hk : k < 8) :
    Calls Try.prog 32 #[.pointer (some ⟨b, 0, none⟩), .int .i64 (k : Int)] w fun e w' => e = .returned (.tuple #[]) ∧ Gr base w' b c n ss (ws.map (clr k)) ∧ Fr base b c w w' :=
  callsIn_wide.1 (release_in base b c n k ss ws w hG hws hk)
end Go.Proofs.Ytkgcgfnleabkdaa
