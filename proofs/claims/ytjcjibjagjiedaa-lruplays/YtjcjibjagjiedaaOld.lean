/-
  The contract of Oldest: the keys that were used longest ago, in a new row.
-/
import Derived.Test.YtjcjibjagjiedaaUse
import Derived.Test.YtjcjibjagjiedaaBrk
namespace Go.Proofs.Ytjcjibjagjiedaa
open Go.RowKit Go.Shelf
attribute [local go_sem] Oper.semAt_some

theorem info9 : (Try.prog.info? 9).map (fun i => (i.zero, i.size, i.bytes)) = some (some (.string ByteArray.empty), 1, 16) := by kernel_rfl
abbrev strs (l : List ByteArray) : List Value := l.map Value.string
/-- The first n keys. -/
def olds (es : Ents) (n : Int) : List ByteArray := (es.take n.toNat).map (·.1)
theorem olds_at {es : Ents} {i : Nat} {x : ByteArray} {v : Int} (h : es[i]? = some (x, v)) : (es.take (i + 1)).map (·.1) = (es.take i).map (·.1) ++ [x] := by
  rw [List.take_add_one, h]; simp
theorem olds_stop {es : Ents} {i : Nat} {n : Int} (h : n ≤ (i : Int)) (h2 : (i : Int) ≤ n ∨ i = 0) : (es.take i).map (·.1) = olds es n := by
  unfold olds
  have : n.toNat = i := by rcases h2 with h2 | rfl <;> omega
  rw [this]
theorem olds_end {es : Ents} {n : Int} (h : ((es.length : Int) ≤ n) ∨ es.length = 0) : (es.take es.length).map (·.1) = olds es n := by
  unfold olds
  rcases h with h | h
  · rw [List.take_length, List.take_of_length_le (by omega)]
  · rw [List.length_eq_zero_iff.1 h]; simp
/-- What lies while Oldest goes over the entries. -/
structure OJ (w W : World) (r : Loop) (h b : Nat) (es : Ents) (n : Int) (i : Nat) : Prop where
  f : Fl w W r h (h + 4) (h + 3) (h + 2) b
  k0 : W.heap[h]? = some (.cells #[.int .i64 n] 3)
  ow : ∃ v, W.heap[h + 1]? = some (.cells #[v] 30) ∧ W.ownsRow h 9 1 v ((es.take i).map (·.1)).length (strs ((es.take i).map (·.1)))
  le : (i : Int) ≤ n ∨ i = 0
structure OS (w W : World) (h b : Nat) (es : Ents) (n : Int) : Prop where
  f : ∃ rd : Loop, rd.state = .done ∧ rd.pending = some (.exit 0) ∧ Fl w W rd h (h + 4) (h + 3) (h + 2) b
  ow : ∃ v, W.heap[h + 1]? = some (.cells #[v] 30) ∧ W.ownsRow h 9 1 v (olds es n).length (strs (olds es n))
theorem box_more1 {w W : World} {r : Loop} {h L D x b H : Nat} {v : Value} {xs : List Value} {o' : Obj} {n : Nat} {news : List Value} {v' : Value} {W5 : World} (J : Fl w W r h L D x b) (k1 : W.heap[H]? = some (.cells #[v] 30)) (own : W.ownsRow h 9 1 v n xs)
    (hg : (W.alloc o').grownBy W5 v.ownBlock) (own' : W5.ownsRow h 9 1 v' (n + 1) (xs ++ news)) (hH : h ≤ H) :
    Fl w (W5.setCell ⟨H, 0, none⟩ v') r h L D x b ∧ W5.heap[H]? = some (.cells #[v] 30) ∧ (W5.setCell ⟨H, 0, none⟩ v').heap[H]? = some (.cells #[v'] 30) ∧ (W5.setCell ⟨H, 0, none⟩ v').ownsRow h 9 1 v' (n + 1) (xs ++ news) :=
  box_more J k1 own hg own' hH (by decide) (by decide) (by decide)

set_option maxRecDepth 100000 in
set_option maxHeartbeats 1000000 in
theorem oldest_in (base b : Nat) (mo n : Int) (es : Ents) (w : World) (hG : Ls base w b mo es) (hes : es.length ≤ 1000) :
    CallsIn Fence.wide 4 Try.prog 14 #[.pointer (some ⟨b, 0, none⟩), .int .i64 n] w fun e w' => ∃ v, e = .returned v ∧ w'.ownsRow w.heap.size 9 1 v (olds es n).length (strs (olds es n)) ∧ Below w.heap.size w w' := by
  have hro : Fence.wide.round = none := rfl
  obtain ⟨a, cap, a0, a1, af, own⟩ := hG.cells
  obtain ⟨g, ha⟩ := own_addr own
  have hbl := hG.lt
  have HG := hide hG
  obtain ⟨i0, hi, hz0, hz1, hz2⟩ := info_parts info9
  clear hG a0 af own
  refine callsIn_of_wp_marks Try.func14 rfl trivial ?_ hro
  simp only [Try.ntmps14, List.size_toArray, List.length_cons, List.length_nil, Nat.reduceAdd, Nat.reduceSub, Array.replicate_succ, Array.replicate_zero, List.push_toArray, List.append_toArray, List.nil_append, List.cons_append]
  gi_wp2_with fail
  refine ⟨trivial, (callsIn_wide.2 (byUse_any b _)).mono ?_⟩
  rintro e w' ⟨rfl, rfl⟩
  gi_wp2_with fail
  obtain ⟨V, hV, hsz, g0, g1, g2, hB⟩ := three0 w (.cells #[.int .i64 n] 3) (.cells #[.slice none 0 0] 30) (.cells #[.pointer (some ⟨b, 0, none⟩)] 22)
  rw [hV]
  clear hV
  generalize hh : w.heap.size = h at *
  have HH : Hid (w.heap.size = h) := hh
  refine wpIn_range_brk (id := 0) hro (by omega) (gf := 36) (lb := #[.pointer (some ⟨h + 2, 0, none⟩)]) rfl trivial (enters_of Try.func36 (by kernel_rfl) rfl) ?_
  intro r hF hst hpe htm hps has hbo
  obtain ⟨L1, D1, hB2⟩ := setup V r
  rw [hsz] at L1 D1 ⊢
  generalize ((V.alloc (.deferred (some []))).alloc (.loop r)) = W1 at L1 D1 hB2 ⊢
  have J0 : OJ w W1 r h b es n 0 := ⟨⟨L1, D1, (hB2.block _ (by omega)).trans g2, hB.trans (hB2.mono (by omega))⟩, (hB2.block _ (by omega)).trans g0, ⟨_, (hB2.block _ (by omega)).trans g1, World.ownsRow_nil _ _ _ _⟩, .inr rfl⟩
  clear L1 D1 hB2 g0 g1 g2 hB
  refine (iter_go (h + 4) (h + 2) b g es.length cap a W1 (fun i W => OJ w W r h b es n i) (fun W => OS w W h b es n) (by omega) J0 ha (fun i W' J => ⟨by rw [cell_of J.f.xx]; rfl, (World.cell?_of_block (J.f.be.block b (by omega))).trans a1⟩) ?_).mono ?_
  · intro i W2 J him
    refine yield_brk (id := 0) hF hst hpe htm hps has hbo rfl J.f.l ?_
    clear htm hps has hbo hst hpe J0
    intro rb
    gi_wp2
    refine ⟨J.f.l, ?_⟩
    have F4 := J.f.put rb (by omega)
    obtain ⟨v, k1, own1⟩ := J.ow
    have k0 := put_other (r' := rb) J.f.l J.k0 (by simp)
    have k4 := put_other (r' := rb) J.f.l k1 (by simp)
    have own4 := own_put (r' := rb) own1 J.f.l
    have hle := J.le
    generalize W2.putObj (h + 4) (.loop rb) = W4 at *
    have G4 : Ls base W4 b mo es := (unhide HG).below (by rw [unhide HH]; exact F4.be)
    have n0 : W4.cell? ⟨h, 0, none⟩ = some (.int .i64 n) := by rw [cell_of k0]; rfl
    by_cases hn : n ≤ (i : Int)
    · have FIN : Hid (OS w (W4.putObj (h + 4) (.loop { rb with state := .done, pending := some (.exit 0) })) h b es n) := by
        refine ⟨⟨_, rfl, rfl, F4.put _ (by omega)⟩, ⟨v, put_other F4.l k4 (by simp), ?_⟩⟩
        rw [← olds_stop hn hle]
        exact own_put own4 F4.l
      have J4l := F4.l
      clear J G4 k1 own1 k4 own4 k0 F4 a1 ha HG hle
      gi_wp2_with fail
      exact unhide FIN
    · have hn2 : ¬ n ≤ (i : Int) := hn
      obtain ⟨⟨xk, xv⟩, hx⟩ : ∃ x, es[i]? = some x := ⟨_, List.getElem?_eq_getElem him⟩
      obtain ⟨a', cap', _, a1', _, ownw⟩ := G4.cells
      have hbb := (World.cell?_of_block (a := ⟨b, 1, none⟩) (F4.be.block b (by omega))).trans a1
      rw [a1'] at hbb
      simp only [Option.some.injEq, Value.slice.injEq] at hbb
      obtain ⟨rfl, -, rfl⟩ := hbb
      have ha' : a' = some ⟨g, 0, none⟩ := by
        rcases ha with ⟨_, hz, _⟩ | e
        · omega
        · exact e
      subst ha'
      obtain ⟨g', eg, c0, c1, cf, _⟩ := own_at ownw hx rfl
      simp only [Option.some.injEq, Addr.mk.injEq, and_true] at eg
      subst eg
      have e0 : W4.cell? ⟨h + 1, 0, none⟩ = some v := by rw [cell_of k4]; rfl
      have hil : ((es.take i).map (·.1)).length ≤ 1000 := by simp; omega
      have own5 := own_keep (W' := W4.drew.alloc (.cells #[.string xk] 9)) own4 (fun k cur hc => Below.heap_alloc W4.drew _ _ (lt_of_heap hc))
      have hs4 : h ≤ W4.heap.size := by have := lt_of_heap k4; omega
      obtain ⟨v', W5, hrun, own6, hgr, -, -⟩ := run_append_own_at (P := Try.prog) (W4.drew.alloc (.cells #[.string xk] 9)) h 30 30 9 i0 (.string ByteArray.empty) 1 16 Try.underlying30 hi hz0 hz1 hz2 rfl (by decide) v _ _ own5 ⟨W4.heap.size, 0, none⟩ 1 1 [.string xk] rfl (cell_one_new W4.drew _ _) (by intro u hu; simp at hu; subst hu; rfl) (by unfold maxLen; omega) (by omega) (by simp; omega)
      have hE := olds_at hx
      have e0d : W4.drew.cell? ⟨h + 1, 0, none⟩ = some v := e0
      have c0d : W4.drew.cell? ⟨g, i * 2, none⟩ = some (.string xk) := c0
      have Fd : Fl w W4.drew rb h (h + 4) (h + 3) (h + 2) b := ⟨F4.l, F4.dd, F4.xx, below_drew F4.be⟩
      have k4d : W4.drew.heap[h + 1]? = some (.cells #[v] 30) := k4
      have k0d : W4.drew.heap[h]? = some (.cells #[.int .i64 n] 3) := k0
      have own4d : W4.drew.ownsRow h 9 1 v _ _ := own_keep own4 fun _ _ _ => rfl
      obtain ⟨F5, H5, k5, own7⟩ := box_more1 Fd k4d own4d hgr own6 (by omega)
      have k05 : (W5.setCell ⟨h + 1, 0, none⟩ v').heap[h]? = some (.cells #[.int .i64 n] 3) := (Below.heap_setCell _ _ _ _ (by simp)).trans (grown_keep own4d hgr k0d (by simp))
      have e0x : (W4.drew.alloc (.cells #[.string xk] 9)).cell? ⟨h + 1, 0, none⟩ = some v := (World.cell?_alloc_past _ _ _ (lt_of_heap k4)).trans e0
      have ef5 : W5.frozen? ⟨h + 1, 0, none⟩ = false := frozen_of H5 0
      have ec5 : W5.cell? ⟨h + 1, 0, none⟩ = some v := by rw [cell_of H5]; rfl
      have J5 : OJ w (W5.setCell ⟨h + 1, 0, none⟩ v') rb h b es n (i + 1) := by
        refine ⟨F5, k05, ⟨v', k5, ?_⟩, .inl (by omega)⟩
        rw [hE, List.length_append]; simpa [strs] using own7
      obtain ⟨q', cp, rfl⟩ := own_form own6
      generalize ((es.take i).map (·.1)).length + 1 = m at *
      have J5l := J5.f.l
      have FIN := hide (show OJ w ((W5.setCell ⟨h + 1, 0, none⟩ (.slice q' m cp)).putObj (h + 4) (.loop r)) r h b es n (i + 1) from ⟨J5.f.put r (by omega), put_other J5.f.l J5.k0 (by simp), by obtain ⟨u, u1, u2⟩ := J5.ow; exact ⟨u, put_other J5.f.l u1 (by simp), own_put u2 J5.f.l⟩, J5.le⟩)
      have hsd : W4.drew.heap.size = W4.heap.size := rfl
      rw [← hsd] at hrun
      clear hsd J G4 k1 own1 F4 k4 own4 k0 hx own5 own6 hgr own7 k5 F5 H5 hE k4d k0d own4d Fd e0 c0 c1 cf a1 a1' ha ownw HG hil hs4 k05 J5 hle
      gi_wp2_with fail
      refine wpIn_region_round (by kernel_rfl) (by kernel_rfl) ?_
      generalize W4.drew = X at *
      refine wpAnyIn_take (i := 1) (v := ?_) rfl rfl (by kernel_rfl) (by kernel_rfl) (by kernel_rfl) (fun _ _ _ h => h) ⟨Or.inl ⟨by rfl, ?hy⟩, fun _ => rfl⟩ ?_
      case hy => intro w; go_simp; all_goals with_reducible rfl
      refine wpAnyIn_take (i := 2) (v := ?_) rfl rfl (by kernel_rfl) (by kernel_rfl) (by kernel_rfl) (fun _ _ _ h => h) ⟨Or.inl ⟨by rfl, ?hy⟩, fun _ => rfl⟩ ?_
      case hy => intro w; go_simp; all_goals with_reducible rfl
      refine wpAnyIn_take (i := 3) (v := ?_) rfl rfl (by kernel_rfl) (by kernel_rfl) (by kernel_rfl) (fun _ _ _ h => h) ⟨Or.inl ⟨by rfl, ?hy⟩, fun _ => rfl⟩ ?_
      case hy => intro w; go_simp; all_goals with_reducible rfl
      refine wpAnyIn_ready (rs := [0, 4]) (by kernel_rfl) (by simp) ?_
      refine AllReadyIn.cons rfl (fun K hK => ?_) ?_
      · go_simp
        refine hK _ _ ?_
        clear hK K
        refine wpAnyIn_ready (rs := [4]) (by kernel_rfl) (by simp) ?_
        refine AllReadyIn.cons rfl (fun K hK => ?_) ?_
        · go_simp
          refine hK _ _ ?_
          clear hK K
          refine wpAnyIn_ready (rs := [5]) (by kernel_rfl) (by simp) ?_
          refine AllReadyIn.cons rfl (fun K hK => ?_) ?_
          · go_simp
            refine hK _ _ ?_
            clear hK K
            refine wpAnyIn_ready (rs := [6]) (by kernel_rfl) (by simp) ?_
            refine AllReadyIn.cons rfl (fun K hK => ?_) ?_
            · refine stepIn_append_eq (by rfl) _ _ 30 (by rfl) 30 (by rfl) _ _ (by rfl) (by rfl) _ _ hrun ?_
              refine hK _ _ ?_
              clear hK K
              refine wpAnyIn_ready (rs := [7]) (by kernel_rfl) (by simp) ?_
              refine AllReadyIn.cons rfl (fun K hK => ?_) ?_
              · go_simp
                refine hK _ _ ?_
                clear hK K
                refine wpAnyIn_done (by kernel_rfl) ?_ _
                gi_wp2_with fail
                exact unhide FIN
              exact AllReadyIn.nil
            exact AllReadyIn.nil
          exact AllReadyIn.nil
        exact AllReadyIn.nil
      refine AllReadyIn.cons rfl (fun K hK => ?_) ?_
      · go_simp
        refine hK _ _ ?_
        clear hK K
        refine wpAnyIn_ready (rs := [0, 5]) (by kernel_rfl) (by simp) ?_
        refine AllReadyIn.cons rfl (fun K hK => ?_) ?_
        · go_simp
          refine hK _ _ ?_
          clear hK K
          refine wpAnyIn_ready (rs := [5]) (by kernel_rfl) (by simp) ?_
          refine AllReadyIn.cons rfl (fun K hK => ?_) ?_
          · go_simp
            refine hK _ _ ?_
            clear hK K
            refine wpAnyIn_ready (rs := [6]) (by kernel_rfl) (by simp) ?_
            refine AllReadyIn.cons rfl (fun K hK => ?_) ?_
            · refine stepIn_append_eq (by rfl) _ _ 30 (by rfl) 30 (by rfl) _ _ (by rfl) (by rfl) _ _ hrun ?_
              refine hK _ _ ?_
              clear hK K
              refine wpAnyIn_ready (rs := [7]) (by kernel_rfl) (by simp) ?_
              refine AllReadyIn.cons rfl (fun K hK => ?_) ?_
              · go_simp
                refine hK _ _ ?_
                clear hK K
                refine wpAnyIn_done (by kernel_rfl) ?_ _
                gi_wp2_with fail
                exact unhide FIN
              exact AllReadyIn.nil
            exact AllReadyIn.nil
          exact AllReadyIn.nil
        refine AllReadyIn.cons rfl (fun K hK => ?_) ?_
        · go_simp
          refine hK _ _ ?_
          clear hK K
          refine wpAnyIn_ready (rs := [0]) (by kernel_rfl) (by simp) ?_
          refine AllReadyIn.cons rfl (fun K hK => ?_) ?_
          · go_simp
            refine hK _ _ ?_
            clear hK K
            refine wpAnyIn_ready (rs := [6]) (by kernel_rfl) (by simp) ?_
            refine AllReadyIn.cons rfl (fun K hK => ?_) ?_
            · refine stepIn_append_eq (by rfl) _ _ 30 (by rfl) 30 (by rfl) _ _ (by rfl) (by rfl) _ _ hrun ?_
              refine hK _ _ ?_
              clear hK K
              refine wpAnyIn_ready (rs := [7]) (by kernel_rfl) (by simp) ?_
              refine AllReadyIn.cons rfl (fun K hK => ?_) ?_
              · go_simp
                refine hK _ _ ?_
                clear hK K
                refine wpAnyIn_done (by kernel_rfl) ?_ _
                gi_wp2_with fail
                exact unhide FIN
              exact AllReadyIn.nil
            exact AllReadyIn.nil
          exact AllReadyIn.nil
        exact AllReadyIn.nil
      exact AllReadyIn.nil
  · rintro e W2 ⟨rfl, J | J⟩
    · refine ⟨⟨_, rfl⟩, .inl ⟨J.f.l, ?_⟩⟩
      have F6 := J.f.put { r with state := .exhausted } (by omega)
      obtain ⟨v, k1, own1⟩ := J.ow
      have k6 := put_other (r' := { r with state := .exhausted }) J.f.l k1 (by simp)
      have own6 := own_put (r' := { r with state := .exhausted }) own1 J.f.l
      have hle := J.le
      rw [olds_end hle] at own6
      generalize W2.putObj (h + 4) (.loop { r with state := .exhausted }) = W3 at *
      have e0 : W3.cell? ⟨h + 1, 0, none⟩ = some v := by rw [cell_of k6]; rfl
      have H6 := hide own6
      have HF := hide F6
      clear J J0 F6 k6 own6 htm hps has hbo hst hpe k1 own1 hle
      gi_wp2_with fail
      refine ⟨by simp, .inl ⟨_, _, rfl, run_takeDeferred (unhide HF).dd, ?_⟩⟩
      have own7 := own_keep (W' := W3.putObj (h + 3) (.deferred none)) (unhide H6) (fun k cur hc => World.putObj_heap_other (by rintro rfl; rw [(unhide HF).dd] at hc; simp at hc))
      have hb := (unhide HF).be
      have be7 : Below h w (W3.putObj (h + 3) (.deferred none)) := ⟨hb.os, hb.tape, hb.output, by rw [World.putObj_size]; exact hb.size, fun k hk => (World.putObj_heap_other (by omega)).trans (hb.block k hk)⟩
      rw [unhide HH]
      exact ⟨v, by simp [results, Try.results14, go_sem], v, rfl, own7, be7⟩
    · obtain ⟨rd, hd1, hd2, F5⟩ := J.f
      refine ⟨⟨_, rfl⟩, .inr ⟨rd, hd1, hd2, F5.l, ?_⟩⟩
      have F6 := F5.put { rd with state := .exhausted } (by omega)
      obtain ⟨v, k1, own1⟩ := J.ow
      have k6 := put_other (r' := { rd with state := .exhausted }) F5.l k1 (by simp)
      have own6 := own_put (r' := { rd with state := .exhausted }) own1 F5.l
      generalize W2.putObj (h + 4) (.loop { rd with state := .exhausted }) = W3 at *
      have e0 : W3.cell? ⟨h + 1, 0, none⟩ = some v := by rw [cell_of k6]; rfl
      have H6 := hide own6
      have HF := hide F6
      clear J J0 F6 k6 own6 htm hps has hbo hst hpe k1 own1 F5
      gi_wp2_with fail
      refine ⟨by simp, .inl ⟨_, _, rfl, run_takeDeferred (unhide HF).dd, ?_⟩⟩
      have own7 := own_keep (W' := W3.putObj (h + 3) (.deferred none)) (unhide H6) (fun k cur hc => World.putObj_heap_other (by rintro rfl; rw [(unhide HF).dd] at hc; simp at hc))
      have hb := (unhide HF).be
      have be7 : Below h w (W3.putObj (h + 3) (.deferred none)) := ⟨hb.os, hb.tape, hb.output, by rw [World.putObj_size]; exact hb.size, fun k hk => (World.putObj_heap_other (by omega)).trans (hb.block k hk)⟩
      rw [unhide HH]
      exact ⟨v, by simp [results, Try.results14, go_sem], v, rfl, own7, be7⟩
theorem oldest_any (base b : Nat) (mo n : Int) (es : Ents) (w : World) (hG : Ls base w b mo es) (hes : es.length ≤ 1000) :
    Calls Try.prog 14 #[.pointer (some ⟨b, 0, none⟩), .int .i64 n] w fun e w' => ∃ v, e = .returned v ∧ w'.ownsRow w.heap.size 9 1 v (olds es n).length (strs (olds es n)) ∧ Below w.heap.size w w' :=
  callsIn_wide.1 (oldest_in base b mo n es w hG hes)
end Go.Proofs.Ytjcjibjagjiedaa
