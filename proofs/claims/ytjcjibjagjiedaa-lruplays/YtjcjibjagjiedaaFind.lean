/-
  The contract of find: where a key stands, and whether it is there.
-/
import Derived.Test.YtjcjibjagjiedaaFly
namespace Go.Proofs.Ytjcjibjagjiedaa
open Go.RowKit Go.Shelf
attribute [local go_sem] Oper.semAt_some

def has (es : Ents) (k : ByteArray) : Bool := es.any fun p => decide (p.1 = k)
def ix (es : Ents) (k : ByteArray) : Nat := es.findIdx fun p => decide (p.1 = k)
/-- What find answers. -/
def at_ (es : Ents) (k : ByteArray) : Int := if has es k then (ix es k : Int) else 0
theorem has_iff {es : Ents} {k : ByteArray} : has es k = true ↔ ∃ v, (k, v) ∈ es := by
  simp only [has, List.any_eq_true, decide_eq_true_eq]
  constructor
  · rintro ⟨⟨a, b⟩, h, rfl⟩; exact ⟨b, h⟩
  · rintro ⟨v, h⟩; exact ⟨_, h, rfl⟩
theorem has_false {es : Ents} {k : ByteArray} : has es k = false ↔ ∀ v, (k, v) ∉ es := by
  rw [← Bool.not_eq_true, has_iff]; simp
theorem ix_at {es : Ents} {j : Nat} {k : ByteArray} {v : Int} (h : es[j]? = some (k, v)) (hN : ∀ p ∈ es.take j, p.1 ≠ k) : has es k = true ∧ ix es k = j := by
  have hl := (List.getElem?_eq_some_iff.1 h).1
  have he := (List.getElem?_eq_some_iff.1 h).2
  refine ⟨has_iff.2 ⟨v, List.mem_of_getElem? h⟩, ?_⟩
  unfold ix
  rw [List.findIdx_eq hl]
  refine ⟨by rw [he]; simp, fun i hi => ?_⟩
  rw [decide_eq_false_iff_not]
  exact hN _ (List.mem_take_iff_getElem.2 ⟨i, by omega, rfl⟩)
theorem has_none {es : Ents} {k : ByteArray} (hN : ∀ p ∈ es, p.1 ≠ k) : has es k = false := has_false.2 fun _ hv => hN _ hv rfl
theorem has_at {es : Ents} {k : ByteArray} (h : has es k = true) : ∃ v, es[ix es k]? = some (k, v) ∧ ∀ p ∈ es.take (ix es k), p.1 ≠ k := by
  have hl : ix es k < es.length := by
    unfold ix
    rw [List.findIdx_lt_length]
    obtain ⟨v, hv⟩ := has_iff.1 h
    exact ⟨_, hv, by simp⟩
  have h1 := List.findIdx_getElem (w := hl)
  rw [decide_eq_true_eq] at h1
  refine ⟨es[ix es k].2, ?_, fun p hp => ?_⟩
  · rw [List.getElem?_eq_getElem hl]; exact congrArg some (Prod.ext h1 rfl)
  · obtain ⟨i, hi, rfl⟩ := List.mem_take_iff_getElem.1 hp
    have := List.not_of_lt_findIdx (xs := es) (p := fun p => decide (p.1 = k)) (i := i) (by unfold ix at hi; omega)
    simpa using this
theorem str_ne {a b : ByteArray} (h : ¬ a = b) : (a.toList == b.toList) = false := by
  rw [beq_eq_false_iff_ne]
  intro e
  rw [ByteArray.toList_eq, ByteArray.toList_eq] at e
  exact h (ByteArray.ext (Array.ext' e))
/-- What lies while find goes over the entries; what lies when it has found it. -/
structure FJ (w W : World) (r : Loop) (h b : Nat) (es : Ents) (key : ByteArray) (i : Nat) : Prop where
  f : Fl w W r h (h + 5) (h + 4) (h + 3) b
  k0 : W.heap[h]? = some (.cells #[.string key] 9)
  k1 : W.heap[h + 1]? = some (.cells #[.int .i64 0] 3)
  k2 : W.heap[h + 2]? = some (.cells #[.bool false] 4)
  no : ∀ p ∈ es.take i, p.1 ≠ key
structure Fs (w W : World) (h b : Nat) (es : Ents) (key : ByteArray) : Prop where
  f : ∃ rd : Loop, rd.state = .done ∧ rd.pending = some .ret ∧ Fl w W rd h (h + 5) (h + 4) (h + 3) b
  k1 : W.heap[h + 1]? = some (.cells #[.int .i64 (at_ es key)] 3)
  k2 : W.heap[h + 2]? = some (.cells #[.bool (has es key)] 4)

set_option maxRecDepth 100000 in
set_option maxHeartbeats 1000000 in
theorem find_in (base b : Nat) (mo : Int) (es : Ents) (key : ByteArray) (w : World) (hG : Ls base w b mo es) (hes : es.length ≤ 1000) :
    CallsIn Fence.wide 4 Try.prog 33 #[.pointer (some ⟨b, 0, none⟩), .string key] w fun e w' => e = .returned (.tuple #[.int .i64 (at_ es key), .bool (has es key)]) ∧ Below w.heap.size w w' := by
  have hro : Fence.wide.round = none := rfl
  obtain ⟨a, cap, a0, a1, af, own⟩ := hG.cells
  obtain ⟨g, ha⟩ := own_addr own
  have hbl := hG.lt
  have HG := hide hG
  clear hG a0 af own
  refine callsIn_of_wp_marks Try.func33 rfl trivial ?_ hro
  simp only [Try.ntmps33, List.size_toArray, List.length_cons, List.length_nil, Nat.reduceAdd, Nat.reduceSub, Array.replicate_succ, Array.replicate_zero, List.push_toArray, List.append_toArray, List.nil_append, List.cons_append]
  gi_wp2_with fail
  refine ⟨trivial, (callsIn_wide.2 (byUse_any b _)).mono ?_⟩
  rintro e w' ⟨rfl, rfl⟩
  gi_wp2_with fail
  obtain ⟨V, hV, hsz, g0, g1, g2, g3, hB⟩ := four0 w (.cells #[.string key] 9) (.cells #[.int .i64 0] 3) (.cells #[.bool false] 4) (.cells #[.pointer (some ⟨b, 0, none⟩)] 22)
  rw [hV]
  clear hV
  generalize hh : w.heap.size = h at *
  have HH : Hid (w.heap.size = h) := hh
  refine wpIn_range_ret hro (by omega) (gf := 36) (lb := #[.pointer (some ⟨h + 3, 0, none⟩)]) rfl trivial (enters_of Try.func36 (by kernel_rfl) rfl) ?_
  intro r hF hst hpe htm hps has hbo
  obtain ⟨L1, D1, hB2⟩ := setup V r
  rw [hsz] at L1 D1 ⊢
  generalize ((V.alloc (.deferred (some []))).alloc (.loop r)) = W1 at L1 D1 hB2 ⊢
  have J0 : FJ w W1 r h b es key 0 := ⟨⟨L1, D1, (hB2.block _ (by omega)).trans g3, hB.trans (hB2.mono (by omega))⟩, (hB2.block _ (by omega)).trans g0, (hB2.block _ (by omega)).trans g1, (hB2.block _ (by omega)).trans g2, by simp⟩
  clear L1 D1 hB2 g0 g1 g2 g3 hB
  refine (iter_go (h + 5) (h + 3) b g es.length cap a W1 (fun i W => FJ w W r h b es key i) (fun W => Fs w W h b es key) (by omega) J0 ha (fun i W' J => ⟨by rw [cell_of J.f.xx]; rfl, (World.cell?_of_block (J.f.be.block b (by omega))).trans a1⟩) ?_).mono ?_
  · intro i W2 J him
    have hG2 : Ls base W2 b mo es := (unhide HG).below (by rw [unhide HH]; exact J.f.be)
    refine yield_ret hF hst hpe htm hps has hbo rfl J.f.l ?_
    clear htm hps has hbo hst hpe J0
    intro rb
    gi_wp2
    refine ⟨J.f.l, ?_⟩
    have F4 := J.f.put rb (by omega)
    have k0 := put_other (r' := rb) J.f.l J.k0 (by simp)
    have k1 := put_other (r' := rb) J.f.l J.k1 (by simp)
    have k2 := put_other (r' := rb) J.f.l J.k2 (by simp)
    have G4 := hG2.keep (W' := W2.putObj (h + 5) (.loop rb)) fun k cur t hc _ => (put_other J.f.l hc (by simp)).trans hc.symm
    generalize W2.putObj (h + 5) (.loop rb) = W4 at *
    obtain ⟨⟨xk, xv⟩, hx⟩ : ∃ x, es[i]? = some x := ⟨_, List.getElem?_eq_getElem him⟩
    obtain ⟨a', cap', _, a1', _, ownw⟩ := G4.cells
    have hbb := (World.cell?_of_block (a := ⟨b, 1, none⟩) (F4.be.block b (by omega))).trans a1
    rw [a1'] at hbb
    simp only [Option.some.injEq, Value.slice.injEq] at hbb
    obtain ⟨rfl, -, rfl⟩ := hbb
    have ha' : a' = some ⟨g, 0, none⟩ := by
      rcases ha with ⟨_, hz, _⟩ | e
      · omega
      · exact e
    subst ha'
    obtain ⟨g', eg, c0, c1, cf, _⟩ := own_at ownw hx rfl
    simp only [Option.some.injEq, Addr.mk.injEq, and_true] at eg
    subst eg
    have i0 : W4.drew.cell? ⟨h, 0, none⟩ = some (.string key) := by rw [cell_of (W := W4.drew) k0]; rfl
    have c0d : W4.drew.cell? ⟨g, i * 2, none⟩ = some (.string xk) := c0
    have Fd : Fl w W4.drew rb h (h + 5) (h + 4) (h + 3) b := ⟨F4.l, F4.dd, F4.xx, below_drew F4.be⟩
    have k0d : W4.drew.heap[h]? = some (.cells #[.string key] 9) := k0
    have k1d : W4.drew.heap[h + 1]? = some (.cells #[.int .i64 0] 3) := k1
    have k2d : W4.drew.heap[h + 2]? = some (.cells #[.bool false] 4) := k2
    have J4l := Fd.l
    by_cases he : xk = key
    · subst he
      obtain ⟨f1, f2⟩ := ix_at hx J.no
      have e1 : W4.drew.cell? ⟨h + 1, 0, none⟩ = some (.int .i64 0) := by rw [cell_of k1d]; rfl
      have e1f : W4.drew.frozen? ⟨h + 1, 0, none⟩ = false := frozen_of k1d 0
      have e2 : W4.drew.cell? ⟨h + 2, 0, none⟩ = some (.bool false) := by rw [cell_of k2d]; rfl
      have e2f : W4.drew.frozen? ⟨h + 2, 0, none⟩ = false := frozen_of k2d 0
      have FIN : Hid ((((W4.drew.setCell ⟨h + 1, 0, none⟩ (.int .i64 (i : Int))).setCell ⟨h + 2, 0, none⟩ (.bool true))).heap[h + 5]? = some (.loop rb) ∧ Fs w (((W4.drew.setCell ⟨h + 1, 0, none⟩ (.int .i64 (i : Int))).setCell ⟨h + 2, 0, none⟩ (.bool true)).putObj (h + 5) (.loop { rb with state := .done, pending := some .ret })) h b es xk) := by
        have kp : ∀ {k : Nat} {o : Obj}, W4.drew.heap[k]? = some o → k ≠ h + 1 → k ≠ h + 2 → ((W4.drew.setCell ⟨h + 1, 0, none⟩ (.int .i64 (i : Int))).setCell ⟨h + 2, 0, none⟩ (.bool true)).heap[k]? = some o := fun h1 h2 h3 => (Below.heap_setCell _ _ _ _ h3).trans ((Below.heap_setCell _ _ _ _ h2).trans h1)
        have F5 : Fl w ((W4.drew.setCell ⟨h + 1, 0, none⟩ (.int .i64 (i : Int))).setCell ⟨h + 2, 0, none⟩ (.bool true)) rb h (h + 5) (h + 4) (h + 3) b := ⟨kp Fd.l (by omega) (by omega), kp Fd.dd (by omega) (by omega), kp Fd.xx (by omega) (by omega), (Fd.be.setCell (p := ⟨h + 1, 0, none⟩) (by simp) _).setCell (p := ⟨h + 2, 0, none⟩) (by simp) _⟩
        have q1 : ((W4.drew.setCell ⟨h + 1, 0, none⟩ (.int .i64 (i : Int))).setCell ⟨h + 2, 0, none⟩ (.bool true)).heap[h + 1]? = some (.cells #[.int .i64 (i : Int)] 3) := by
          rw [Below.heap_setCell _ _ _ _ (by simp), heap_set k1d]; simp
        have q2 : ((W4.drew.setCell ⟨h + 1, 0, none⟩ (.int .i64 (i : Int))).setCell ⟨h + 2, 0, none⟩ (.bool true)).heap[h + 2]? = some (.cells #[.bool true] 4) := by
          rw [heap_set ((Below.heap_setCell _ _ _ _ (by simp)).trans k2d)]; simp
        have ea : at_ es xk = (i : Int) := by simp [at_, f1, f2]
        refine ⟨F5.l, ⟨_, rfl, rfl, F5.put _ (by omega)⟩, ?_, ?_⟩
        · rw [ea]; exact put_other F5.l q1 (by simp)
        · rw [f1]; exact put_other F5.l q2 (by simp)
      clear J hG2 F4 G4 hx a1 a1' ha ownw HG k0 k1 k2 c0 c1 cf f1 f2
      gi_wp2_with fail
      refine wpIn_region_round (by kernel_rfl) (by kernel_rfl) ?_
      generalize W4.drew = X at *
      refine wpAnyIn_take (i := 0) (v := ?_) rfl rfl (by kernel_rfl) (by kernel_rfl) (by kernel_rfl) (fun _ _ _ h => h) ⟨Or.inl ⟨by rfl, ?hy⟩, fun _ => rfl⟩ ?_
      case hy => intro w; go_simp; all_goals with_reducible rfl
      refine wpAnyIn_take (i := 1) (v := ?_) rfl rfl (by kernel_rfl) (by kernel_rfl) (by kernel_rfl) (fun _ _ _ h => h) ⟨Or.inl ⟨by rfl, ?hy⟩, fun _ => rfl⟩ ?_
      case hy => intro w; go_simp; all_goals with_reducible rfl
      refine wpAnyIn_take (i := 2) (v := ?_) rfl rfl (by kernel_rfl) (by kernel_rfl) (by kernel_rfl) (fun _ _ _ h => h) ⟨Or.inl ⟨by rfl, ?hy⟩, fun _ => rfl⟩ ?_
      case hy => intro w; go_simp; all_goals with_reducible rfl
      refine wpAnyIn_ready (rs := [3, 4]) (by kernel_rfl) (by simp) ?_
      refine AllReadyIn.cons rfl (fun K hK => ?_) ?_
      · go_simp
        refine hK _ _ ?_
        clear hK K
        refine wpAnyIn_ready (rs := [4]) (by kernel_rfl) (by simp) ?_
        refine AllReadyIn.cons rfl (fun K hK => ?_) ?_
        · go_simp
          refine hK _ _ ?_
          clear hK K
          refine wpAnyIn_ready (rs := [5]) (by kernel_rfl) (by simp) ?_
          refine AllReadyIn.cons rfl (fun K hK => ?_) ?_
          · go_simp
            refine hK _ _ ?_
            clear hK K
            refine wpAnyIn_done (by kernel_rfl) ?_ _
            gi_wp2_with fail
            exact unhide FIN
          exact AllReadyIn.nil
        exact AllReadyIn.nil
      refine AllReadyIn.cons rfl (fun K hK => ?_) ?_
      · go_simp
        refine hK _ _ ?_
        clear hK K
        refine wpAnyIn_ready (rs := [3]) (by kernel_rfl) (by simp) ?_
        refine AllReadyIn.cons rfl (fun K hK => ?_) ?_
        · go_simp
          refine hK _ _ ?_
          clear hK K
          refine wpAnyIn_ready (rs := [5]) (by kernel_rfl) (by simp) ?_
          refine AllReadyIn.cons rfl (fun K hK => ?_) ?_
          · go_simp
            refine hK _ _ ?_
            clear hK K
            refine wpAnyIn_done (by kernel_rfl) ?_ _
            gi_wp2_with fail
            exact unhide FIN
          exact AllReadyIn.nil
        exact AllReadyIn.nil
      exact AllReadyIn.nil
    · have eb := str_ne he
      have HJ := hide (show FJ w (W4.drew.putObj (h + 5) (.loop r)) r h b es key (i + 1) from ⟨Fd.put r (by omega), put_other Fd.l k0d (by simp), put_other Fd.l k1d (by simp), put_other Fd.l k2d (by simp), by
        intro p hp
        rw [List.take_add_one, hx] at hp
        rcases List.mem_append.1 hp with hp | hp
        · exact J.no p hp
        · simp at hp; subst hp; exact he⟩)
      clear J hG2 F4 G4 hx a1 a1' ha ownw HG k0 k1 k2 c0 c1 cf he
      gi_wp2_with fail
      refine wpIn_region_round (by kernel_rfl) (by kernel_rfl) ?_
      generalize W4.drew = X at *
      refine wpAnyIn_take (i := 0) (v := ?_) rfl rfl (by kernel_rfl) (by kernel_rfl) (by kernel_rfl) (fun _ _ _ h => h) ⟨Or.inl ⟨by rfl, ?hy⟩, fun _ => rfl⟩ ?_
      case hy => intro w; go_simp; all_goals with_reducible rfl
      refine wpAnyIn_take (i := 1) (v := ?_) rfl rfl (by kernel_rfl) (by kernel_rfl) (by kernel_rfl) (fun _ _ _ h => h) ⟨Or.inl ⟨by rfl, ?hy⟩, fun _ => rfl⟩ ?_
      case hy => intro w; go_simp; all_goals with_reducible rfl
      refine wpAnyIn_take (i := 2) (v := ?_) rfl rfl (by kernel_rfl) (by kernel_rfl) (by kernel_rfl) (fun _ _ _ h => h) ⟨Or.inl ⟨by rfl, ?hy⟩, fun _ => rfl⟩ ?_
      case hy => intro w; go_simp; all_goals with_reducible rfl
      refine wpAnyIn_ready (rs := [3, 4]) (by kernel_rfl) (by simp) ?_
      refine AllReadyIn.cons rfl (fun K hK => ?_) ?_
      · go_simp
        refine hK _ _ ?_
        clear hK K
        refine wpAnyIn_ready (rs := [4]) (by kernel_rfl) (by simp) ?_
        refine AllReadyIn.cons rfl (fun K hK => ?_) ?_
        · go_simp
          refine hK _ _ ?_
          clear hK K
          refine wpAnyIn_ready (rs := [5]) (by kernel_rfl) (by simp) ?_
          refine AllReadyIn.cons rfl (fun K hK => ?_) ?_
          · go_simp
            refine hK _ _ ?_
            clear hK K
            refine wpAnyIn_done (by kernel_rfl) ?_ _
            gi_wp2_with fail
            exact unhide HJ
          exact AllReadyIn.nil
        exact AllReadyIn.nil
      refine AllReadyIn.cons rfl (fun K hK => ?_) ?_
      · go_simp
        refine hK _ _ ?_
        clear hK K
        refine wpAnyIn_ready (rs := [3]) (by kernel_rfl) (by simp) ?_
        refine AllReadyIn.cons rfl (fun K hK => ?_) ?_
        · go_simp
          refine hK _ _ ?_
          clear hK K
          refine wpAnyIn_ready (rs := [5]) (by kernel_rfl) (by simp) ?_
          refine AllReadyIn.cons rfl (fun K hK => ?_) ?_
          · go_simp
            refine hK _ _ ?_
            clear hK K
            refine wpAnyIn_done (by kernel_rfl) ?_ _
            gi_wp2_with fail
            exact unhide HJ
          exact AllReadyIn.nil
        exact AllReadyIn.nil
      exact AllReadyIn.nil
  · rintro e W2 ⟨rfl, J | J⟩
    · refine ⟨⟨_, rfl⟩, .inl ⟨J.f.l, ?_⟩⟩
      have F6 := J.f.put { r with state := .exhausted } (by omega)
      have k6 := put_other (r' := { r with state := .exhausted }) J.f.l J.k1 (by simp)
      have k7 := put_other (r' := { r with state := .exhausted }) J.f.l J.k2 (by simp)
      have hno : Go.Proofs.Ytjcjibjagjiedaa.has es key = false := has_none (by have := J.no; rwa [List.take_length] at this)
      generalize W2.putObj (h + 5) (.loop { r with state := .exhausted }) = W3 at *
      have e1 : W3.cell? ⟨h + 1, 0, none⟩ = some (.int .i64 0) := by rw [cell_of k6]; rfl
      have ef : W3.frozen? ⟨h + 1, 0, none⟩ = false := frozen_of k6 0
      have e2 : W3.cell? ⟨h + 2, 0, none⟩ = some (.bool false) := by rw [cell_of k7]; rfl
      have e2f : W3.frozen? ⟨h + 2, 0, none⟩ = false := frozen_of k7 0
      have HF := hide F6
      have HN := hide hno
      have HK := hide k6
      have HK2 := hide k7
      clear J J0 F6 k6 k7 htm hps has hbo hst hpe hno
      gi_wp2_with fail
      have dd5 : ((W3.setCell ⟨h + 1, 0, none⟩ (.int .i64 0)).setCell ⟨h + 2, 0, none⟩ (.bool false)).heap[h + 4]? = some (.deferred (some [])) := (Below.heap_setCell _ _ _ _ (by simp)).trans ((Below.heap_setCell _ _ _ _ (by simp)).trans (unhide HF).dd)
      refine ⟨by simp, .inl ⟨_, _, rfl, run_takeDeferred dd5, ?_⟩⟩
      have hb := ((unhide HF).be.setCell (p := ⟨h + 1, 0, none⟩) (by simp) (.int .i64 0)).setCell (p := ⟨h + 2, 0, none⟩) (by simp) (.bool false)
      have be7 : Below h w (((W3.setCell ⟨h + 1, 0, none⟩ (.int .i64 0)).setCell ⟨h + 2, 0, none⟩ (.bool false)).putObj (h + 4) (.deferred none)) := ⟨hb.os, hb.tape, hb.output, by rw [World.putObj_size]; exact hb.size, fun k hk => (World.putObj_heap_other (by omega)).trans (hb.block k hk)⟩
      have q7 : (((W3.setCell ⟨h + 1, 0, none⟩ (.int .i64 0)).setCell ⟨h + 2, 0, none⟩ (.bool false)).putObj (h + 4) (.deferred none)).heap[h + 1]? = some (.cells #[.int .i64 0] 3) := by
        rw [World.putObj_heap_other (by omega), Below.heap_setCell _ _ _ _ (by simp), heap_set (unhide HK)]; simp
      have q8 : (((W3.setCell ⟨h + 1, 0, none⟩ (.int .i64 0)).setCell ⟨h + 2, 0, none⟩ (.bool false)).putObj (h + 4) (.deferred none)).heap[h + 2]? = some (.cells #[.bool false] 4) := by
        rw [World.putObj_heap_other (by omega), heap_set ((Below.heap_setCell _ _ _ _ (by simp)).trans (unhide HK2))]; simp
      have z7 : (((W3.setCell ⟨h + 1, 0, none⟩ (.int .i64 0)).setCell ⟨h + 2, 0, none⟩ (.bool false)).putObj (h + 4) (.deferred none)).cell? ⟨h + 1, 0, none⟩ = some (.int .i64 0) := by rw [cell_of q7]; rfl
      have z8 : (((W3.setCell ⟨h + 1, 0, none⟩ (.int .i64 0)).setCell ⟨h + 2, 0, none⟩ (.bool false)).putObj (h + 4) (.deferred none)).cell? ⟨h + 2, 0, none⟩ = some (.bool false) := by rw [cell_of q8]; rfl
      rw [unhide HH]
      refine ⟨.tuple #[.int .i64 0, .bool false], by simp [results, Try.results33, go_sem, z7, z8], ?_, be7⟩
      rw [at_, unhide HN]; rfl
    · obtain ⟨rd, hd1, hd2, F5⟩ := J.f
      refine ⟨⟨_, rfl⟩, .inr ⟨rd, hd1, hd2, F5.l, ?_⟩⟩
      have F6 := F5.put { rd with state := .exhausted } (by omega)
      have k6 := put_other (r' := { rd with state := .exhausted }) F5.l J.k1 (by simp)
      have k7 := put_other (r' := { rd with state := .exhausted }) F5.l J.k2 (by simp)
      generalize W2.putObj (h + 5) (.loop { rd with state := .exhausted }) = W3 at *
      have HF := hide F6
      have HK := hide k6
      have HK2 := hide k7
      clear J J0 F6 k6 k7 htm hps has hbo hst hpe F5
      gi_wp2_with fail
      refine ⟨by simp, .inl ⟨_, _, rfl, run_takeDeferred (unhide HF).dd, ?_⟩⟩
      have hb := (unhide HF).be
      have be7 : Below h w (W3.putObj (h + 4) (.deferred none)) := ⟨hb.os, hb.tape, hb.output, by rw [World.putObj_size]; exact hb.size, fun k hk => (World.putObj_heap_other (by omega)).trans (hb.block k hk)⟩
      have q7 : (W3.putObj (h + 4) (.deferred none)).heap[h + 1]? = _ := (World.putObj_heap_other (by omega)).trans (unhide HK)
      have q8 : (W3.putObj (h + 4) (.deferred none)).heap[h + 2]? = _ := (World.putObj_heap_other (by omega)).trans (unhide HK2)
      have z7 : (W3.putObj (h + 4) (.deferred none)).cell? ⟨h + 1, 0, none⟩ = some (.int .i64 (at_ es key)) := by rw [cell_of q7]; rfl
      have z8 : (W3.putObj (h + 4) (.deferred none)).cell? ⟨h + 2, 0, none⟩ = some (.bool (Go.Proofs.Ytjcjibjagjiedaa.has es key)) := by rw [cell_of q8]; rfl
      rw [unhide HH]
      exact ⟨_, by simp [results, Try.results33, go_sem, z7, z8], rfl, be7⟩
theorem find_any (base b : Nat) (mo : Int) (es : Ents) (key : ByteArray) (w : World) (hG : Ls base w b mo es) (hes : es.length ≤ 1000) :
    Calls Try.prog 33 #[.pointer (some ⟨b, 0, none⟩), .string key] w fun e w' => e = .returned (.tuple #[.int .i64 (at_ es key), .bool (has es key)]) ∧ Below w.heap.size w w' :=
  callsIn_wide.1 (find_in base b mo es key w hG hes)
theorem has_any (base b : Nat) (mo : Int) (es : Ents) (key : ByteArray) (w : World) (hG : Ls base w b mo es) (hes : es.length ≤ 1000) :
    Calls Try.prog 25 #[.pointer (some ⟨b, 0, none⟩), .string key] w fun e w' => e = .returned (.bool (has es key)) ∧ Below w.heap.size w w' := by
  have HF := hide (find_any base b mo es key w hG hes)
  clear hG
  generalize at_ es key = x at *
  generalize has es key = y at *
  go_enter Try.func25, Try.ntmps25
  go_wp2_with fail
  refine (unhide HF).mono ?_
  rintro e w1 ⟨rfl, hB⟩
  replace hB := hide hB
  go_wp2_with fail
  go_ret
  exact ⟨rfl, unhide hB⟩
end Go.Proofs.Ytjcjibjagjiedaa
