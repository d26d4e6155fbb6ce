/-
  The contract of Blocks: the readers for whom the first waiting id of that number waits, rising, in a new row; none where no such waits.
-/
import Derived.Test.YtkgcgfnleabkdaaWait
namespace Go.Proofs.Ytkgcgfnleabkdaa
open Go.RowKit Go.Shelf
attribute [local go_sem] Oper.semAt_some

/-- For whom the first of that number waits. -/
def blk (ws : List Wt) (id : Int) : List Int := match ws.find? (fun x => x.id == id) with | some x => rises x.on 8 | none => []
theorem blk_of {ws : List Wt} {id : Int} {i : Nat} {x : Wt} (h : (ws.take i).find? (fun x => x.id == id) = none) (hi : ws[i]? = some x) (he : x.id = id) : blk ws id = rises x.on 8 := by
  have h1 : ws = ws.take i ++ x :: ws.drop (i + 1) := by
    have hl := (List.getElem?_eq_some_iff.1 hi)
    obtain ⟨hl, rfl⟩ := hl
    simp
  have h2 : ws.find? (fun x => x.id == id) = some x := by
    rw [h1, List.find?_append, h]; simp [he]
  simp [blk, h2]
theorem blk_not {ws : List Wt} {id : Int} (h : (ws.take ws.length).find? (fun x => x.id == id) = none) : blk ws id = [] := by
  rw [List.take_length] at h; simp [blk, h]
theorem find_succ {ws : List Wt} {id : Int} {i : Nat} {x : Wt} (h : (ws.take i).find? (fun x => x.id == id) = none) (hi : ws[i]? = some x) (he : ¬ x.id = id) : (ws.take (i + 1)).find? (fun x => x.id == id) = none := by
  rw [List.take_add_one, hi, List.find?_append, h]; simp [he]
theorem three0 (w : World) (o1 o2 o3 : Obj) : ∃ V : World, ((w.alloc o1).alloc o2).alloc o3 = V ∧ V.heap.size = w.heap.size + 3 ∧ V.heap[w.heap.size]? = some o1 ∧ V.heap[w.heap.size + 1]? = some o2 ∧ V.heap[w.heap.size + 2]? = some o3 ∧ Below w.heap.size w V := by
  refine ⟨_, rfl, by simp, ?_, ?_, ?_, ?_⟩
  · rw [Below.heap_alloc _ _ _ (by simp; omega), Below.heap_alloc _ _ _ (by simp)]; exact putAll _ _ rfl
  · rw [Below.heap_alloc _ _ _ (by simp)]; exact putAll _ _ (by simp)
  · exact putAll _ _ (by simp)
  · exact (((Below.refl w.heap.size w).alloc (Nat.le_refl _) o1).alloc (by simp) o2).alloc (by simp; omega) o3
theorem own_base {W : World} {base base' : Nat} {e : TypeId} {s n : Nat} {v : Value} {xs : List Value} (h : W.ownsRow base' e s v n xs) (hb : base ≤ base') : W.ownsRow base e s v n xs := by
  obtain ⟨h0, h1⟩ := h
  refine ⟨h0, ?_⟩
  rcases h1 with h1 | ⟨g, cap, cur, h1, h2, h3⟩
  · exact .inl h1
  · exact .inr ⟨g, cap, cur, h1, by omega, h3⟩

/-- What lies while Blocks goes over what waits; what lies when it has found it. -/
structure BJ (w W : World) (r : Loop) (h b : Nat) (ws : List Wt) (id : Int) (i : Nat) : Prop where
  f : Fl w W r h (h + 4) (h + 3) (h + 2) b
  k0 : W.heap[h]? = some (.cells #[.int .i64 id] 2)
  k1 : W.heap[h + 1]? = some (.cells #[.slice none 0 0] 31)
  no : (ws.take i).find? (fun x => x.id == id) = none
structure BS (w W : World) (h b : Nat) (ws : List Wt) (id : Int) : Prop where
  f : ∃ rd : Loop, rd.state = .done ∧ rd.pending = some .ret ∧ Fl w W rd h (h + 4) (h + 3) (h + 2) b
  k1 : ∃ v, W.heap[h + 1]? = some (.cells #[v] 31) ∧ W.ownsRow (h + 2) 3 1 v (blk ws id).length (ints (blk ws id))

set_option maxRecDepth 100000 in
set_option maxHeartbeats 1000000 in
theorem blocks_in (base b c n : Nat) (id : Int) (ss : List Int) (ws : List Wt) (w : World) (hG : Gr base w b c n ss ws) (hws : ws.length ≤ 16) :
    CallsIn Fence.wide 4 Try.prog 13 #[.pointer (some ⟨b, 0, none⟩), .int .i64 id] w fun e w' => ∃ v, e = .returned v ∧ w'.ownsRow w.heap.size 3 1 v (blk ws id).length (ints (blk ws id)) ∧ Below w.heap.size w w' := by
  have hro : Fence.wide.round = none := rfl
  obtain ⟨a, cap, a0, a1, af, ag, own⟩ := hG.cells
  obtain ⟨g, ha⟩ := own_addr own
  have hbl := hG.lt
  have HG := hide hG
  clear hG a0 af ag own
  refine callsIn_of_wp_marks Try.func13 rfl trivial ?_ hro
  simp only [Try.ntmps13, List.size_toArray, List.length_cons, List.length_nil, Nat.reduceAdd, Nat.reduceSub, Array.replicate_succ, Array.replicate_zero, List.push_toArray, List.append_toArray, List.nil_append, List.cons_append]
  gi_wp2_with fail
  refine ⟨trivial, (callsIn_wide.2 (waiting_any b _)).mono ?_⟩
  rintro e w' ⟨rfl, rfl⟩
  gi_wp2_with fail
  obtain ⟨V, hV, hsz, g0, g1, g2, hB⟩ := three0 w (.cells #[.int .i64 id] 2) (.cells #[.slice none 0 0] 31) (.cells #[.pointer (some ⟨b, 0, none⟩)] 22)
  rw [hV]
  clear hV
  generalize hh : w.heap.size = h at *
  have HH : Hid (w.heap.size = h) := hh
  refine wpIn_range_ret hro (by omega) (gf := 35) (lb := #[.pointer (some ⟨h + 2, 0, none⟩)]) rfl trivial (enters_of Try.func35 (by kernel_rfl) rfl) ?_
  intro r hF hst hpe htm hps has hbo
  obtain ⟨L1, D1, hB2⟩ := setup V r
  rw [hsz] at L1 D1 ⊢
  generalize ((V.alloc (.deferred (some []))).alloc (.loop r)) = W1 at L1 D1 hB2 ⊢
  have J0 : BJ w W1 r h b ws id 0 := ⟨⟨L1, D1, (hB2.block _ (by omega)).trans g2, hB.trans (hB2.mono (by omega))⟩, (hB2.block _ (by omega)).trans g0, (hB2.block _ (by omega)).trans g1, by simp⟩
  clear L1 D1 hB2 g0 g1 g2 hB
  refine (waiting_go (h + 4) (h + 2) b g ws.length cap a W1 (fun i W => BJ w W r h b ws id i) (fun W => BS w W h b ws id) (by omega) J0 ha (fun i W' J => ⟨by rw [cell_of J.f.xx]; rfl, (World.cell?_of_block (J.f.be.block b (by omega))).trans a1⟩) ?_).mono ?_
  · intro i W2 J him
    have hG2 : Gr base W2 b c n ss ws := (unhide HG).below (by rw [unhide HH]; exact J.f.be)
    refine yield_ret hF hst hpe htm hps has hbo rfl J.f.l ?_
    clear htm hps has hbo hst hpe J0
    intro rb
    gi_wp2
    refine ⟨J.f.l, ?_⟩
    have F4 := J.f.put rb (by omega)
    have k0 := put_other (r' := rb) J.f.l J.k0 (by simp)
    have k1 := put_other (r' := rb) J.f.l J.k1 (by simp)
    have G4 := hG2.keep (W' := W2.putObj (h + 4) (.loop rb)) fun k cur t hc _ => (put_other J.f.l hc (by simp)).trans hc.symm
    generalize W2.putObj (h + 4) (.loop rb) = W4 at *
    obtain ⟨x, hx⟩ : ∃ x, ws[i]? = some x := ⟨_, List.getElem?_eq_getElem him⟩
    obtain ⟨a', cap', _, a1', _, _, ownw⟩ := G4.cells
    have hbb := (World.cell?_of_block (a := ⟨b, 1, none⟩) (F4.be.block b (by omega))).trans a1
    rw [a1'] at hbb
    simp only [Option.some.injEq, Value.slice.injEq] at hbb
    obtain ⟨rfl, -, rfl⟩ := hbb
    have ha' : a' = some ⟨g, 0, none⟩ := by
      rcases ha with ⟨_, hz, _⟩ | e
      · omega
      · exact e
    subst ha'
    obtain ⟨⟨c0, cs⟩, _⟩ := wt_cells ownw rfl hx
    have i0 : W4.drew.cell? ⟨h, 0, none⟩ = some (.int .i64 id) := by rw [cell_of (W := W4.drew) k0]; rfl
    have c0d : W4.drew.cell? ⟨g, i * 9, none⟩ = some (.int .i64 x.id) := c0
    have Fd : Fl w W4.drew rb h (h + 4) (h + 3) (h + 2) b := ⟨F4.l, F4.dd, F4.xx, below_drew F4.be⟩
    have k0d : W4.drew.heap[h]? = some (.cells #[.int .i64 id] 2) := k0
    have k1d : W4.drew.heap[h + 1]? = some (.cells #[.slice none 0 0] 31) := k1
    have J4l := Fd.l
    by_cases he : x.id = id
    · have d1 : W4.drew.cell? ⟨g, i * 9 + 1, none⟩ = some (.bool (x.on 0)) := cs 0 (by omega)
      have d2 : W4.drew.cell? ⟨g, i * 9 + 2, none⟩ = some (.bool (x.on 1)) := cs 1 (by omega)
      have d3 : W4.drew.cell? ⟨g, i * 9 + 3, none⟩ = some (.bool (x.on 2)) := cs 2 (by omega)
      have d4 : W4.drew.cell? ⟨g, i * 9 + 4, none⟩ = some (.bool (x.on 3)) := cs 3 (by omega)
      have d5 : W4.drew.cell? ⟨g, i * 9 + 5, none⟩ = some (.bool (x.on 4)) := cs 4 (by omega)
      have d6 : W4.drew.cell? ⟨g, i * 9 + 6, none⟩ = some (.bool (x.on 5)) := cs 5 (by omega)
      have d7 : W4.drew.cell? ⟨g, i * 9 + 7, none⟩ = some (.bool (x.on 6)) := cs 6 (by omega)
      have d8 : W4.drew.cell? ⟨g, i * 9 + 8, none⟩ = some (.bool (x.on 7)) := cs 7 (by omega)
      have eb : (x.id == id) = true := by simpa using he
      have FIN : Hid (∀ (w' : World) (v : Value), Below W4.drew.heap.size W4.drew w' → w'.ownsRow W4.drew.heap.size 3 1 v (rises x.on 8).length (ints (rises x.on 8)) →
          (w'.setCell ⟨h + 1, 0, none⟩ v).heap[h + 4]? = some (.loop rb) ∧ BS w ((w'.setCell ⟨h + 1, 0, none⟩ v).putObj (h + 4) (.loop { rb with state := .done, pending := some .ret })) h b ws id) := by
        intro w' v hB' own'
        have kp : ∀ {k : Nat} {o : Obj}, W4.drew.heap[k]? = some o → k ≠ h + 1 → (w'.setCell ⟨h + 1, 0, none⟩ v).heap[k]? = some o := fun h1 h2 => (Below.heap_setCell _ _ _ _ h2).trans ((hB'.block _ (lt_of_heap h1)).trans h1)
        have hsz4 : h + 4 < W4.drew.heap.size := lt_of_heap Fd.l
        have F5 : Fl w (w'.setCell ⟨h + 1, 0, none⟩ v) rb h (h + 4) (h + 3) (h + 2) b := ⟨kp Fd.l (by omega), kp Fd.dd (by omega), kp Fd.xx (by omega), (Fd.be.trans (hB'.mono (by omega))).setCell (p := ⟨h + 1, 0, none⟩) (by simp) _⟩
        have q1 : (w'.setCell ⟨h + 1, 0, none⟩ v).heap[h + 1]? = some (.cells #[v] 31) := by rw [heap_set ((hB'.block _ (lt_of_heap k1d)).trans k1d)]; simp
        have own8 : (w'.setCell ⟨h + 1, 0, none⟩ v).ownsRow (h + 2) 3 1 v (blk ws id).length (ints (blk ws id)) := by
          rw [blk_of J.no hx he]
          refine own_keep (own_base own' (by omega)) fun k cur hc => Below.heap_setCell _ _ _ _ ?_
          rintro rfl
          rw [(hB'.block _ (lt_of_heap k1d)).trans k1d] at hc
          simp at hc
        exact ⟨F5.l, ⟨_, rfl, rfl, F5.put _ (by omega)⟩, v, put_other F5.l q1 (by simp), own_put own8 F5.l⟩
      have H1 := hide k1d
      clear J hG2 F4 G4 hx a1 a1' ha ownw HG k0 k1 c0 cs he
      gi_wp2_with fail
      refine wpIn_region_round (by kernel_rfl) (by kernel_rfl) ?_
      generalize W4.drew = X at *
      refine wpAnyIn_take (i := 0) (v := ?_) rfl rfl (by kernel_rfl) (by kernel_rfl) (by kernel_rfl) (fun _ _ _ h => h) ⟨Or.inl ⟨by rfl, ?hy⟩, fun _ => rfl⟩ ?_
      case hy => intro w; go_simp; all_goals with_reducible rfl
      refine wpAnyIn_take (i := 1) (v := ?_) rfl rfl (by kernel_rfl) (by kernel_rfl) (by kernel_rfl) (fun _ _ _ h => h) ⟨Or.inl ⟨by rfl, ?hy⟩, fun _ => rfl⟩ ?_
      case hy => intro w; go_simp; all_goals with_reducible rfl
      refine wpAnyIn_take (i := 2) (v := ?_) rfl rfl (by kernel_rfl) (by kernel_rfl) (by kernel_rfl) (fun _ _ _ h => h) ⟨Or.inl ⟨by rfl, ?hy⟩, fun _ => rfl⟩ ?_
      case hy => intro w; go_simp; all_goals with_reducible rfl
      refine wpAnyIn_ready (rs := [3, 4]) (by kernel_rfl) (by simp) ?_
      refine AllReadyIn.cons rfl (fun K hK => ?_) ?_
      · go_simp
        refine hK _ _ ?_
        clear hK K
        refine wpAnyIn_ready (rs := [4]) (by kernel_rfl) (by simp) ?_
        refine AllReadyIn.cons rfl (fun K hK => ?_) ?_
        · go_simp
          refine hK _ _ ?_
          clear hK K
          refine wpAnyIn_ready (rs := [5]) (by kernel_rfl) (by simp) ?_
          refine AllReadyIn.cons rfl (fun K hK => ?_) ?_
          · go_simp
            refine hK _ _ ?_
            clear hK K
            refine wpAnyIn_done (by kernel_rfl) ?_ _
            gi_wp2_with fail
            refine ⟨trivial, (callsIn_wide.2 (rising_any x.on X)).mono ?_⟩
            rintro e w' ⟨v', rfl, own', hB'⟩
            obtain ⟨a', cp', rfl⟩ := own_form own'
            have q1 := (hB'.block _ (lt_of_heap (unhide H1))).trans (unhide H1)
            have e1 : w'.cell? ⟨h + 1, 0, none⟩ = some (.slice none 0 0) := by rw [cell_of q1]; rfl
            have ef : w'.frozen? ⟨h + 1, 0, none⟩ = false := frozen_of q1 0
            have HO := hide own'
            have HB := hide hB'
            have HQ := hide q1
            clear own' hB' q1
            gi_wp2_with fail
            exact unhide FIN _ _ (unhide HB) (unhide HO)
          exact AllReadyIn.nil
        exact AllReadyIn.nil
      refine AllReadyIn.cons rfl (fun K hK => ?_) ?_
      · go_simp
        refine hK _ _ ?_
        clear hK K
        refine wpAnyIn_ready (rs := [3]) (by kernel_rfl) (by simp) ?_
        refine AllReadyIn.cons rfl (fun K hK => ?_) ?_
        · go_simp
          refine hK _ _ ?_
          clear hK K
          refine wpAnyIn_ready (rs := [5]) (by kernel_rfl) (by simp) ?_
          refine AllReadyIn.cons rfl (fun K hK => ?_) ?_
          · go_simp
            refine hK _ _ ?_
            clear hK K
            refine wpAnyIn_done (by kernel_rfl) ?_ _
            gi_wp2_with fail
            refine ⟨trivial, (callsIn_wide.2 (rising_any x.on X)).mono ?_⟩
            rintro e w' ⟨v', rfl, own', hB'⟩
            obtain ⟨a', cp', rfl⟩ := own_form own'
            have q1 := (hB'.block _ (lt_of_heap (unhide H1))).trans (unhide H1)
            have e1 : w'.cell? ⟨h + 1, 0, none⟩ = some (.slice none 0 0) := by rw [cell_of q1]; rfl
            have ef : w'.frozen? ⟨h + 1, 0, none⟩ = false := frozen_of q1 0
            have HO := hide own'
            have HB := hide hB'
            have HQ := hide q1
            clear own' hB' q1
            gi_wp2_with fail
            exact unhide FIN _ _ (unhide HB) (unhide HO)
          exact AllReadyIn.nil
        exact AllReadyIn.nil
      exact AllReadyIn.nil
    · have eb : (x.id == id) = false := by simpa using he
      have HJ := hide (show BJ w (W4.drew.putObj (h + 4) (.loop r)) r h b ws id (i + 1) from ⟨Fd.put r (by omega), put_other Fd.l k0d (by simp), put_other Fd.l k1d (by simp), find_succ J.no hx he⟩)
      clear J hG2 F4 G4 hx a1 a1' ha ownw HG k0 k1 c0 cs he
      gi_wp2_with fail
      refine wpIn_region_round (by kernel_rfl) (by kernel_rfl) ?_
      generalize W4.drew = X at *
      refine wpAnyIn_take (i := 0) (v := ?_) rfl rfl (by kernel_rfl) (by kernel_rfl) (by kernel_rfl) (fun _ _ _ h => h) ⟨Or.inl ⟨by rfl, ?hy⟩, fun _ => rfl⟩ ?_
      case hy => intro w; go_simp; all_goals with_reducible rfl
      refine wpAnyIn_take (i := 1) (v := ?_) rfl rfl (by kernel_rfl) (by kernel_rfl) (by kernel_rfl) (fun _ _ _ h => h) ⟨Or.inl ⟨by rfl, ?hy⟩, fun _ => rfl⟩ ?_
      case hy => intro w; go_simp; all_goals with_reducible rfl
      refine wpAnyIn_take (i := 2) (v := ?_) rfl rfl (by kernel_rfl) (by kernel_rfl) (by kernel_rfl) (fun _ _ _ h => h) ⟨Or.inl ⟨by rfl, ?hy⟩, fun _ => rfl⟩ ?_
      case hy => intro w; go_simp; all_goals with_reducible rfl
      refine wpAnyIn_ready (rs := [3, 4]) (by kernel_rfl) (by simp) ?_
      refine AllReadyIn.cons rfl (fun K hK => ?_) ?_
      · go_simp
        refine hK _ _ ?_
        clear hK K
        refine wpAnyIn_ready (rs := [4]) (by kernel_rfl) (by simp) ?_
        refine AllReadyIn.cons rfl (fun K hK => ?_) ?_
        · go_simp
          refine hK _ _ ?_
          clear hK K
          refine wpAnyIn_ready (rs := [5]) (by kernel_rfl) (by simp) ?_
          refine AllReadyIn.cons rfl (fun K hK => ?_) ?_
          · go_simp
            refine hK _ _ ?_
            clear hK K
            refine wpAnyIn_done (by kernel_rfl) ?_ _
            gi_wp2_with fail
            exact unhide HJ
          exact AllReadyIn.nil
        exact AllReadyIn.nil
      refine AllReadyIn.cons rfl (fun K hK => ?_) ?_
      · go_simp
        refine hK _ _ ?_
        clear hK K
        refine wpAnyIn_ready (rs := [3]) (by kernel_rfl) (by simp) ?_
        refine AllReadyIn.cons rfl (fun K hK => ?_) ?_
        · go_simp
          refine hK _ _ ?_
          clear hK K
          refine wpAnyIn_ready (rs := [5]) (by kernel_rfl) (by simp) ?_
          refine AllReadyIn.cons rfl (fun K hK => ?_) ?_
          · go_simp
            refine hK _ _ ?_
            clear hK K
            refine wpAnyIn_done (by kernel_rfl) ?_ _
            gi_wp2_with fail
            exact unhide HJ
          exact AllReadyIn.nil
        exact AllReadyIn.nil
      exact AllReadyIn.nil
  · rintro e W2 ⟨rfl, J | J⟩
    · refine ⟨⟨_, rfl⟩, .inl ⟨J.f.l, ?_⟩⟩
      have F6 := J.f.put { r with state := .exhausted } (by omega)
      have k6 := put_other (r' := { r with state := .exhausted }) J.f.l J.k1 (by simp)
      have hno := blk_not J.no
      generalize W2.putObj (h + 4) (.loop { r with state := .exhausted }) = W3 at *
      have e1 : W3.cell? ⟨h + 1, 0, none⟩ = some (.slice none 0 0) := by rw [cell_of k6]; rfl
      have ef : W3.frozen? ⟨h + 1, 0, none⟩ = false := frozen_of k6 0
      have HF := hide F6
      have HN := hide hno
      have HK := hide k6
      clear J J0 F6 k6 htm hps has hbo hst hpe hno
      gi_wp2_with fail
      have dd5 : (W3.setCell ⟨h + 1, 0, none⟩ (.slice none 0 0)).heap[h + 3]? = some (.deferred (some [])) := (Below.heap_setCell _ _ _ _ (by simp)).trans (unhide HF).dd
      refine ⟨by simp, .inl ⟨_, _, rfl, run_takeDeferred dd5, ?_⟩⟩
      have hb := (unhide HF).be.setCell (p := ⟨h + 1, 0, none⟩) (by simp) (.slice none 0 0)
      have be7 : Below h w ((W3.setCell ⟨h + 1, 0, none⟩ (.slice none 0 0)).putObj (h + 3) (.deferred none)) := ⟨hb.os, hb.tape, hb.output, by rw [World.putObj_size]; exact hb.size, fun k hk => (World.putObj_heap_other (by omega)).trans (hb.block k hk)⟩
      rw [unhide HH, unhide HN]
      have q7 : ((W3.setCell ⟨h + 1, 0, none⟩ (.slice none 0 0)).putObj (h + 3) (.deferred none)).heap[h + 1]? = some (.cells #[.slice none 0 0] 31) := by
        rw [World.putObj_heap_other (by omega), heap_set (unhide HK)]; simp
      have z7 : ((W3.setCell ⟨h + 1, 0, none⟩ (.slice none 0 0)).putObj (h + 3) (.deferred none)).cell? ⟨h + 1, 0, none⟩ = some (.slice none 0 0) := by rw [cell_of q7]; rfl
      exact ⟨.slice none 0 0, by simp [results, Try.results13, go_sem, z7], _, rfl, World.ownsRow_nil _ _ _ _, be7⟩
    · obtain ⟨rd, hd1, hd2, F5⟩ := J.f
      obtain ⟨v, k1, own1⟩ := J.k1
      refine ⟨⟨_, rfl⟩, .inr ⟨rd, hd1, hd2, F5.l, ?_⟩⟩
      have F6 := F5.put { rd with state := .exhausted } (by omega)
      have k6 := put_other (r' := { rd with state := .exhausted }) F5.l k1 (by simp)
      have own6 := own_put (r' := { rd with state := .exhausted }) own1 F5.l
      generalize W2.putObj (h + 4) (.loop { rd with state := .exhausted }) = W3 at *
      have HF := hide F6
      have HO := hide own6
      have HK := hide k6
      clear J J0 F6 k6 htm hps has hbo hst hpe F5 k1 own1 own6
      gi_wp2_with fail
      refine ⟨by simp, .inl ⟨_, _, rfl, run_takeDeferred (unhide HF).dd, ?_⟩⟩
      have own7 := own_keep (W' := W3.putObj (h + 3) (.deferred none)) (unhide HO) (fun k cur hc => World.putObj_heap_other (by rintro rfl; rw [(unhide HF).dd] at hc; simp at hc))
      have hb := (unhide HF).be
      have be7 : Below h w (W3.putObj (h + 3) (.deferred none)) := ⟨hb.os, hb.tape, hb.output, by rw [World.putObj_size]; exact hb.size, fun k hk => (World.putObj_heap_other (by omega)).trans (hb.block k hk)⟩
      have q7 : (W3.putObj (h + 3) (.deferred none)).heap[h + 1]? = some (.cells #[v] 31) := (World.putObj_heap_other (by omega)).trans (unhide HK)
      have z7 : (W3.putObj (h + 3) (.deferred none)).cell? ⟨h + 1, 0, none⟩ = some v := by rw [cell_of q7]; rfl
      rw [unhide HH]
      exact ⟨v, by simp [results, Try.results13, go_sem, z7], v, rfl, own_base own7 (by omega), be7⟩
theorem blocks_all (base b c n : Nat) (id : Int) (ss : List Int) (ws : List Wt) (w : World) (hG : Gr base w b c n ss ws) (hws : ws.length ≤ 16) :
    Calls Try.prog 13 #[.pointer (some ⟨b, 0, none⟩), .int .i64 id] w fun e w' => ∃ v, e = .returned v ∧ w'.ownsRow w.heap.size 3 1 v (blk ws id).length (ints (blk ws id)) ∧ Below w.heap.size w w' :=
  callsIn_wide.1 (blocks_in base b c n id ss ws w hG hws)
end Go.Proofs.Ytkgcgfnleabkdaa
