/-
  The contract of Names.
-/
import Derived.Test.YtlngeaacjbdmhaaIterO
import Derived.Maps.AppendAt
namespace Go.Proofs.Ytlngeaacjbdmhaa
open Go.RowKit Go.Shelf Go.Maps
attribute [local go_sem] Oper.semAt_some

def strV (l : List ByteArray) : List Value := l.map Value.string
/-- Texts in a row of the call's own. -/
def Rs (lo : Nat) (W : World) (v : Value) (l : List ByteArray) : Prop := W.ownsRow lo 9 1 v l.length (strV l)
theorem Rs.below {lo : Nat} {W W' : World} {v : Value} {l : List ByteArray} (h : Rs lo W v l) (g : Below W.heap.size W W') : Rs lo W' v l := own_keep h fun k _ e => g.block k (lt_of_heap e)
theorem info9 : (Try.prog.info? 9).map (fun i => (i.zero, i.size, i.bytes)) = some (some (.string ByteArray.empty), 1, 16) := by kernel_rfl
structure NJ (w W : World) (r : Loop) (h b : Nat) (l : List ByteArray) : Prop where
  f : Fy w W r h (h + 3) (h + 2) (h + 1) b
  k1 : ∃ v, W.heap[h]? = some (.cells #[v] 43) ∧ Rs h W v l
theorem NJ.alloc {w W : World} {r : Loop} {h b : Nat} {l : List ByteArray} (J : NJ w W r h b l) (o : Obj) : NJ w (W.alloc o) r h b l := by
  have hB : Below W.heap.size W (W.alloc o) := (Below.refl _ _).alloc (Nat.le_refl _) o
  have kp : ∀ {i : Nat} {o' : Obj}, W.heap[i]? = some o' → (W.alloc o).heap[i]? = some o' := fun e => (hB.block _ (lt_of_heap e)).trans e
  obtain ⟨v, k1, k2⟩ := J.k1
  exact ⟨⟨kp J.f.l, kp J.f.dd, kp J.f.xx, J.f.be.trans (hB.mono (by have := lt_of_heap J.f.l; omega))⟩, v, kp k1, k2.below hB⟩
section
variable {lo N : Nat} {t : Nat} {T : Tr} {q p : Nat} {nb : Int → Nat} {ev : Int → Value} {B : Nat}
set_option maxRecDepth 100000 in
set_option maxHeartbeats 1000000 in
theorem names_in {w : World} (hT : TrI lo N w t T q p nb ev) (hw : Wk B T) (hB : B ≤ 900) {d : Int} {x : Nd} (hx : T.nd d = some x) (hk : x.kind = 1) :
    CallsIn Fence.wide 4 Try.prog 14 #[P0 t, I d] w fun e w' => ∃ v, e = .returned v ∧ Rs w.heap.size w' v (x.ins.map Prod.fst) ∧ Below w.heap.size w w' := by
  have hro : Fence.wide.round = none := rfl
  have H0 := dir_some hT (hw.wf hB hx) hx
  simp only [hk, decide_true] at H0
  have HDR := hide H0
  obtain ⟨-, -, -, -, -, -, -, d7, -, -, df⟩ := ndcells (hT.hn d x hx).1
  have hbl := lt_of_heap (hT.hn d x hx).1
  obtain ⟨b, hb⟩ : ∃ b, b = nb d := ⟨_, rfl⟩
  rw [← hb] at d7 df hbl HDR
  have hl : x.ins.length ≤ 1000 := by have := (hw.bnd d x hx).2.2; omega
  have HT := hide hT
  have HW := hide hw
  have HX := hide hx
  have HD := hide d7
  clear hT hw hx hb d7 H0
  refine callsIn_of_wp_marks Try.func14 rfl trivial ?_ hro
  simp only [Try.ntmps14, List.size_toArray, List.length_cons, List.length_nil, Nat.reduceAdd, Nat.reduceSub, Array.replicate_succ, Array.replicate_zero, List.push_toArray, List.append_toArray, List.nil_append, List.cons_append]
  gi_wp2_with fail
  refine ⟨trivial, (callsIn_wide.2 (unhide HDR)).mono ?_⟩
  rintro e w' ⟨rfl, kk, rfl⟩
  gi_wp2_with fail
  refine ⟨trivial, (callsIn_wide.2 (inOrder_any b _)).mono ?_⟩
  rintro e w' ⟨rfl, rfl⟩
  gi_wp2_with fail
  obtain ⟨V, hV, hsz, g0, g1, hB0⟩ := two0 (w.drewN kk) (.cells #[.slice none 0 0] 43) (.cells #[.pointer (some ⟨b, 0, none⟩)] 62)
  have hws : (w.drewN kk).heap.size = w.heap.size := rfl
  rw [hws] at hsz g0 g1 hB0
  rw [hV]
  clear hV hws
  generalize hh : w.heap.size = h at *
  have HH : Hid (w.heap.size = h) := hh
  have hBw : Below h w V := ⟨hB0.os, hB0.tape, hB0.output, by have := hB0.size; exact this, fun k hk => hB0.block k hk⟩
  refine wpIn_range_own hro (by omega) (gf := 49) (lb := #[.pointer (some ⟨h + 1, 0, none⟩)]) rfl trivial (enters_of Try.func49 (by kernel_rfl) rfl) ?_
  intro r hF hst hpe htm hps has hbo
  obtain ⟨L1, D1, hB2⟩ := setup V r
  rw [hsz] at L1 D1 ⊢
  generalize ((V.alloc (.deferred (some []))).alloc (.loop r)) = W1 at L1 D1 hB2 ⊢
  have J0 : NJ w W1 r h b ((x.ins.take 0).map Prod.fst) := ⟨⟨L1, D1, (hB2.block _ (by omega)).trans g1, hBw.trans (hB2.mono (by omega))⟩, _, (hB2.block _ (by omega)).trans g0, rfl, .inl ⟨rfl, rfl⟩⟩
  clear L1 D1 hB2 g0 g1 hB0 hBw
  refine (iter_go (h + 3) (h + 1) b x.ins W1 (fun i W => NJ w W r h b ((x.ins.take i).map Prod.fst)) ((unhide HT).hn d x (unhide HX)).2 hl J0 (fun i W' J => ⟨by rw [unhide HH]; exact J.f.be, by rw [cell_of J.f.xx]; rfl, (World.cell?_of_block (J.f.be.block b hbl)).trans (unhide HD)⟩) ?_ (fun i W' o J => J.alloc o)).mono ?_
  · intro i W2 a n J hi
    refine yield_own hF hst hpe htm hps has hbo rfl J.f.l ?_
    clear htm hps has hbo hst hpe J0
    intro rb
    gi_wp2
    refine ⟨J.f.l, ?_⟩
    have F4 := J.f.put rb (by omega)
    obtain ⟨v, kv, ov⟩ := J.k1
    have k4 := put_other (r' := rb) J.f.l kv (by simp)
    have o4 : Rs h (W2.putObj (h + 3) (.loop rb)) v ((x.ins.take i).map Prod.fst) := own_put ov J.f.l
    generalize W2.putObj (h + 3) (.loop rb) = W4 at *
    have hsn : a.size ≤ 281474976710656 := by have := (unhide HW).nam d x (unhide HX) _ (List.mem_of_getElem? hi); simp only at this; omega
    have Fd : Fy w W4.drew rb h (h + 3) (h + 2) (h + 1) b := ⟨F4.l, F4.dd, F4.xx, below_drew F4.be⟩
    have kd : W4.drew.heap[h]? = some (.cells #[v] 43) := k4
    have od : Rs h W4.drew v ((x.ins.take i).map Prod.fst) := o4
    have HCL := hide (clone_any a W4.drew hsn)
    have hil := (List.getElem?_eq_some_iff.1 hi).1
    have htk : (x.ins.take (i + 1)).map Prod.fst = (x.ins.take i).map Prod.fst ++ [a] := by
      rw [List.take_add_one, hi]; simp
    gi_wp2_with fail
    refine wpIn_region_round (by kernel_rfl) (by kernel_rfl) ?_
    generalize W4.drew = X at *
    have hhX : h ≤ X.heap.size := by have := lt_of_heap Fd.l; omega
    have HAP : Hid (∀ w5, Below X.heap.size X w5 → w5.cell? ⟨h, 0, none⟩ = some v ∧ h < w5.heap.size ∧ w5.frozen? ⟨h, 0, none⟩ = false ∧ ∃ v' w6, (∀ ty, (Builtin.append_ #[43, 43] ty #[v, .slice (some ⟨w5.heap.size, 0, none⟩) 1 1]).run Try.prog (w5.alloc (.cells #[.string a] 9)) = .ok v' w6) ∧ (∃ g' c', v' = .slice (some ⟨g', 0, none⟩) (i + 1) c') ∧ w6.cell? ⟨h, 0, none⟩ = some v ∧ w6.frozen? ⟨h, 0, none⟩ = false ∧ Hid ((w6.setCell ⟨h, 0, none⟩ v').heap[h + 3]? = some (.loop rb) ∧ True ∧ NJ w ((w6.setCell ⟨h, 0, none⟩ v').putObj (h + 3) (.loop r)) r h b ((x.ins.take (i + 1)).map Prod.fst))) := by
      intro w5 hb5
      have kp : ∀ {k : Nat} {o : Obj}, X.heap[k]? = some o → w5.heap[k]? = some o := fun e => (hb5.block _ (lt_of_heap e)).trans e
      have k5 := kp kd
      have o5 : Rs h w5 v ((x.ins.take i).map Prod.fst) := own_keep od fun k _ e => hb5.block k (lt_of_heap e)
      have F5 : Fy w w5 rb h (h + 3) (h + 2) (h + 1) b := ⟨kp Fd.l, kp Fd.dd, kp Fd.xx, Fd.be.trans (hb5.mono hhX)⟩
      have o5a : (w5.alloc (.cells #[.string a] 9)).ownsRow h 9 1 v ((x.ins.take i).map Prod.fst).length (strV ((x.ins.take i).map Prod.fst)) := own_keep o5 fun k _ e => Below.heap_alloc _ _ _ (lt_of_heap e)
      obtain ⟨i0, hi0, hz0, hz1, hz2⟩ := info_parts info9
      have hlen : ((x.ins.take i).map Prod.fst).length = i := by simp; omega
      obtain ⟨v', w6, hr, ho, hg, hne, hat⟩ := run_append_own_at (P := Try.prog) (w5.alloc (.cells #[.string a] 9)) h 43 43 9 i0 (.string ByteArray.empty) 1 16 Try.underlying43 hi0 hz0 hz1 hz2 rfl (by decide) v _ _ o5a ⟨w5.heap.size, 0, none⟩ 1 1 [.string a] rfl (fun j u hj => by
          match j, hj with
          | 0, hj => simp at hj; subst hj; rw [Addr.add_lit, cell_of (heap_alloc_new w5 _)]; rfl) (by intro u hu; simp at hu; subst hu; rfl) (by rw [hlen]; unfold maxLen; omega) (by rw [hlen]; omega) (by simp; have := hb5.size; omega)
      have hbm := box_more F5 k5 o5 hg ho (Nat.le_refl _) (by decide) (by decide) (by decide)
      refine ⟨by rw [cell_of k5]; rfl, by have := hb5.size; have := lt_of_heap kd; omega, frozen_of k5 0, v', w6, fun ty => by rw [← hr]; rfl, ?_, by rw [cell_of hbm.2.1]; rfl, frozen_of hbm.2.1 0, hbm.1.l, trivial, hbm.1.put r (by omega), v', put_other hbm.1.l hbm.2.2.1 (by simp), ?_⟩
      · obtain ⟨-, ⟨_, hz⟩ | ⟨g', cap, cur, e1, _⟩⟩ := ho
        · omega
        · exact ⟨g', cap, by rw [e1, hlen]⟩
      · have h7 := own_put (r' := r) hbm.2.2.2 hbm.1.l
        rw [htk]
        have hl2 : ((x.ins.take i).map Prod.fst ++ [a]).length = ((x.ins.take i).map Prod.fst).length + 1 := by simp
        show World.ownsRow _ _ _ _ _ _ _
        rw [hl2]
        have e2 : strV ((x.ins.take i).map Prod.fst ++ [a]) = strV ((x.ins.take i).map Prod.fst) ++ [.string a] := by simp [strV]
        rw [e2]
        exact h7
    have kd0 : X.cell? ⟨h, 0, none⟩ = some v := by rw [cell_of kd]; rfl
    clear J F4 k4 o4 kv ov Fd kd od hi htk hsn hhX
    refine wpAnyIn_take (i := 1) (v := ?_) rfl rfl (by kernel_rfl) (by kernel_rfl) (by kernel_rfl) (fun _ _ _ h => h) ⟨Or.inl ⟨by rfl, ?hy⟩, fun _ => rfl⟩ ?_
    case hy => intro w; go_simp; all_goals with_reducible rfl
    refine wpAnyIn_ready (rs := [0, 2]) (by kernel_rfl) (by simp) ?_
    refine AllReadyIn.cons rfl (fun K hK => ?_) ?_
    · go_simp
      refine hK _ _ ?_
      clear hK K
      refine wpAnyIn_ready (rs := [2]) (by kernel_rfl) (by simp) ?_
      refine AllReadyIn.cons rfl (fun K hK => ?_) ?_
      · go_simp
        refine ⟨trivial, (callsIn_wide.2 (unhide HCL)).mono ?_⟩
        rintro e w5 ⟨rfl, hb5⟩
        obtain ⟨k5, l5, f5, v', w6, hrun, ⟨g', c', hv'⟩, k6, f6, FIN⟩ := unhide HAP w5 hb5
        subst hv'
        clear hb5
        refine hK _ _ ?_
        clear hK K
        refine wpAnyIn_ready (rs := [3]) (by kernel_rfl) (by simp) ?_
        refine AllReadyIn.cons rfl (fun K hK => ?_) ?_
        · go_simp
          refine hK _ _ ?_
          clear hK K
          refine wpAnyIn_ready (rs := [4]) (by kernel_rfl) (by simp) ?_
          refine AllReadyIn.cons rfl (fun K hK => ?_) ?_
          · refine stepIn_append_eq (by rfl) _ _ 43 (by rfl) 43 (by rfl) _ _ (by rfl) (by rfl) _ _ (hrun _) ?_
            refine hK _ _ ?_
            clear hK K
            refine wpAnyIn_ready (rs := [5]) (by kernel_rfl) (by simp) ?_
            refine AllReadyIn.cons rfl (fun K hK => ?_) ?_
            · go_simp
              refine hK _ _ ?_
              clear hK K
              refine wpAnyIn_done (by kernel_rfl) ?_ _
              exact ⟨rfl, unhide FIN⟩
            exact AllReadyIn.nil
          exact AllReadyIn.nil
        exact AllReadyIn.nil
      exact AllReadyIn.nil
    refine AllReadyIn.cons rfl (fun K hK => ?_) ?_
    · go_simp
      refine ⟨trivial, (callsIn_wide.2 (unhide HCL)).mono ?_⟩
      rintro e w5 ⟨rfl, hb5⟩
      obtain ⟨k5, l5, f5, v', w6, hrun, ⟨g', c', hv'⟩, k6, f6, FIN⟩ := unhide HAP w5 hb5
      subst hv'
      clear hb5
      refine hK _ _ ?_
      clear hK K
      refine wpAnyIn_ready (rs := [0, 3]) (by kernel_rfl) (by simp) ?_
      refine AllReadyIn.cons rfl (fun K hK => ?_) ?_
      · go_simp
        refine hK _ _ ?_
        clear hK K
        refine wpAnyIn_ready (rs := [3]) (by kernel_rfl) (by simp) ?_
        refine AllReadyIn.cons rfl (fun K hK => ?_) ?_
        · go_simp
          refine hK _ _ ?_
          clear hK K
          refine wpAnyIn_ready (rs := [4]) (by kernel_rfl) (by simp) ?_
          refine AllReadyIn.cons rfl (fun K hK => ?_) ?_
          · refine stepIn_append_eq (by rfl) _ _ 43 (by rfl) 43 (by rfl) _ _ (by rfl) (by rfl) _ _ (hrun _) ?_
            refine hK _ _ ?_
            clear hK K
            refine wpAnyIn_ready (rs := [5]) (by kernel_rfl) (by simp) ?_
            refine AllReadyIn.cons rfl (fun K hK => ?_) ?_
            · go_simp
              refine hK _ _ ?_
              clear hK K
              refine wpAnyIn_done (by kernel_rfl) ?_ _
              exact ⟨rfl, unhide FIN⟩
            exact AllReadyIn.nil
          exact AllReadyIn.nil
        exact AllReadyIn.nil
      refine AllReadyIn.cons rfl (fun K hK => ?_) ?_
      · go_simp
        refine hK _ _ ?_
        clear hK K
        refine wpAnyIn_ready (rs := [0]) (by kernel_rfl) (by simp) ?_
        refine AllReadyIn.cons rfl (fun K hK => ?_) ?_
        · go_simp
          refine hK _ _ ?_
          clear hK K
          refine wpAnyIn_ready (rs := [4]) (by kernel_rfl) (by simp) ?_
          refine AllReadyIn.cons rfl (fun K hK => ?_) ?_
          · refine stepIn_append_eq (by rfl) _ _ 43 (by rfl) 43 (by rfl) _ _ (by rfl) (by rfl) _ _ (hrun _) ?_
            refine hK _ _ ?_
            clear hK K
            refine wpAnyIn_ready (rs := [5]) (by kernel_rfl) (by simp) ?_
            refine AllReadyIn.cons rfl (fun K hK => ?_) ?_
            · go_simp
              refine hK _ _ ?_
              clear hK K
              refine wpAnyIn_done (by kernel_rfl) ?_ _
              exact ⟨rfl, unhide FIN⟩
            exact AllReadyIn.nil
          exact AllReadyIn.nil
        exact AllReadyIn.nil
      exact AllReadyIn.nil
    exact AllReadyIn.nil
  · rintro e W2 ⟨rfl, J⟩
    refine ⟨⟨_, rfl⟩, J.f.l, ?_⟩
    have F6 := J.f.put { r with state := .exhausted } (by omega)
    obtain ⟨v, kv, ov⟩ := J.k1
    have k1 := put_other (r' := { r with state := .exhausted }) J.f.l kv (by simp)
    have o1 : Rs h (W2.putObj (h + 3) (.loop { r with state := .exhausted })) v _ := own_put ov J.f.l
    generalize W2.putObj (h + 3) (.loop { r with state := .exhausted }) = W3 at F6 k1 o1 ⊢
    have e0 : W3.cell? ⟨h, 0, none⟩ = some v := by rw [cell_of k1]; rfl
    rw [List.take_length] at o1
    have HO := hide o1
    have HD6 := hide F6.dd
    have HB6 := hide F6.be
    clear J J0 F6 k1 kv ov o1 htm hps has hbo hst hpe
    gi_wp2_with fail
    refine ⟨by simp, .inl ⟨_, _, rfl, run_takeDeferred (unhide HD6), ?_⟩⟩
    have hb := unhide HB6
    have be7 : Below h w (W3.putObj (h + 2) (.deferred none)) := ⟨hb.os, hb.tape, hb.output, by rw [World.putObj_size]; exact hb.size, fun k hk => (World.putObj_heap_other (by omega)).trans (hb.block k hk)⟩
    have o7 : Rs h (W3.putObj (h + 2) (.deferred none)) v (x.ins.map Prod.fst) := own_keep (unhide HO) fun k cur hc => World.putObj_heap_other (by rintro rfl; rw [unhide HD6] at hc; simp at hc)
    rw [unhide HH]
    exact ⟨_, by simp [results, Try.results14, go_sem], v, rfl, o7, be7⟩
theorem names_any {w : World} (hT : TrI lo N w t T q p nb ev) (hw : Wk B T) (hB : B ≤ 900) {n : Int} (hn : (kl n).wf = true) :
    Calls Try.prog 14 #[P0 t, I n] w fun e w' => ∃ v, e = .returned v ∧ Rs w.heap.size w' v (T.names n) ∧ Below w.heap.size w w' := by
  have none' : T.dir n = none → Calls Try.prog 14 #[P0 t, I n] w fun e w' => ∃ v, e = .returned v ∧ Rs w.heap.size w' v (T.names n) ∧ Below w.heap.size w w' := fun hd => by
    have e : T.names n = [] := by simp [Tr.names, hd]
    rw [e]
    have HD : ∃ pv, Hid (Calls Try.prog 24 #[P0 t, I n] w fun e w' => e = .returned (.tuple #[pv, .bool false]) ∧ ∃ k, w' = w.drewN k) := by
      cases hx : T.nd n with
      | none => exact ⟨_, dir_none hT hn hx⟩
      | some x =>
        have h1 := dir_some hT hn hx
        have hk : ¬ x.kind = 1 := fun hk => by simp [Tr.dir, hx, hk] at hd
        simp only [hk, decide_false] at h1
        exact ⟨_, h1⟩
    obtain ⟨pv, HD⟩ := HD
    clear hT hw hd e
    go_enter Try.func14, Try.ntmps14
    go_wp2_with (go_at_call 24; refine (unhide HD).mono ?_; rintro e w' ⟨rfl, k, rfl⟩)
    go_ret
    exact ⟨_, rfl, ⟨rfl, .inl ⟨rfl, rfl⟩⟩, below_n _ _⟩
  cases hd : T.dir n with
  | none => exact none' hd
  | some x =>
    obtain ⟨hx, hk⟩ := Tr.dir_some.1 hd
    have e : T.names n = x.ins.map Prod.fst := by simp [Tr.names, hd]
    rw [e]
    exact callsIn_wide.1 (names_in hT hw hB hx hk)
end
end Go.Proofs.Ytlngeaacjbdmhaa
