/-
  The contract of Names.
-/
import Derived.Test.YtlngeaacjbdmhaaGreatQp06
import Derived.Maps.AppendAt
import Derived.Test.YtlngeaacjbdmhaaGreatQp10
import Derived.Test.YtlngeaacjbdmhaaGreatQp14
import Derived.Test.YtlngeaacjbdmhaaGreatQp03
namespace Go.Proofs.YtlngeaacjbdmhaaGreat
open Go.RowKit Go.Shelf Go.Maps
attribute [local go_sem] Oper.semAt_some
def strV (l : List ByteArray) : List Value := l.map Value.string
def Rs (lo : Nat) (W : World) (v : Value) (l : List ByteArray) : Prop := W.ownsRow lo 9 1 v l.length (strV l)
theorem Rs.below {lo : Nat} {W W' : World} {v : Value} {l : List ByteArray} (h : Rs lo W v l) (g : Below W.heap.size W W') : Rs lo W' v l := own_keep h fun k _ e => g.block k (lt_of_heap e)
theorem info9 : (Tryz.prog.info? 9).map (fun i => (i.zero, i.size, i.bytes)) = some (some (.string ByteArray.empty), 1, 16) := by kernel_rfl
structure NJ (w W : World) (r : Loop) (h b : Nat) (l : List ByteArray) : Prop where
  f : Fy w W r h (h + 3) (h + 2) (h + 1) b
  k1 : ∃ v, W.heap[h]? = some (.cells #[v] 55) ∧ Rs h W v l
theorem NJ.alloc {w W : World} {r : Loop} {h b : Nat} {l : List ByteArray} (J : NJ w W r h b l) (o : Obj) : NJ w (W.alloc o) r h b l := by
  have hB : Below W.heap.size W (W.alloc o) := (Below.refl _ _).alloc (Nat.le_refl _) o
  have kp : ∀ {i : Nat} {o' : Obj}, W.heap[i]? = some o' → (W.alloc o).heap[i]? = some o' := fun e => (hB.block _ (lt_of_heap e)).trans e
  obtain ⟨v, k1, k2⟩ := J.k1
  exact ⟨⟨kp J.f.l, kp J.f.dd, kp J.f.xx, J.f.be.trans (hB.mono (by have := lt_of_heap J.f.l; omega))⟩, v, kp k1, k2.below hB⟩
section
variable {lo N : Nat} {t : Nat} {T : Tr} {q p : Nat} {nb : Int → Nat} {ev : Int → Value} {B : Nat}
set_option maxRecDepth 100000 in
set_option maxHeartbeats 1000000 in
theorem names_in {w : World} (hT : TrI lo N w t T q p nb ev) (hw : Wk B T) (hB : B ≤ 900) {d : Int} {x : Nd} (hx : T.nd d = some x) (hk : x.kind = 1) :
    CallsIn Fence.wide 4 Tryz.prog 56 #[P0 t, I d] w fun e w' => ∃ v, e = .returned v ∧ Rs w.heap.size w' v (x.ins.map Prod.fst) ∧ Below w.heap.size w w' := by
  have hro : Fence.wide.round = none := rfl
  have H0 := dir_some hT (hw.wf hB hx) hx
  simp only [hk, decide_true] at H0
  have HDR := hide H0
  obtain ⟨-, -, -, -, -, -, -, d7, -, -, df⟩ := ndcells (hT.hn d x hx).1
  have hbl := lt_of_heap (hT.hn d x hx).1
  obtain ⟨b, hb⟩ : ∃ b, b = nb d := ⟨_, rfl⟩
  rw [← hb] at d7 df hbl HDR
  have hl : x.ins.length ≤ 1000 := by have := (hw.bnd d x hx).2.2; omega
  have HT := hide hT
  have HW := hide hw
  have HX := hide hx
  have HD := hide d7
  clear hT hw hx hb d7 H0
  refine callsIn_of_wp_marks Tryz.func56 rfl trivial ?_ hro
  simp only [Tryz.ntmps56, List.size_toArray, List.length_cons, List.length_nil, Nat.reduceAdd, Nat.reduceSub, Array.replicate_succ, Array.replicate_zero, List.push_toArray, List.append_toArray, List.nil_append, List.cons_append]
  gi_wp2_with fail
  refine ⟨trivial, (callsIn_wide.2 (unhide HDR)).mono ?_⟩
  rintro e w' ⟨rfl, kk, rfl⟩
  gi_wp2_with fail
  refine ⟨trivial, (callsIn_wide.2 (inOrder_any b _)).mono ?_⟩
  rintro e w' ⟨rfl, rfl⟩
  gi_wp2_with fail
  obtain ⟨V, hV, hsz, g0, g1, hB0⟩ := two0 (w.drewN kk) (.cells #[.slice none 0 0] 55) (.cells #[.pointer (some ⟨b, 0, none⟩)] 130)
  have hws : (w.drewN kk).heap.size = w.heap.size := rfl
  rw [hws] at hsz g0 g1 hB0
  rw [hV]
  clear hV hws
  generalize hh : w.heap.size = h at *
  have HH : Hid (w.heap.size = h) := hh
  have hBw : Below h w V := ⟨hB0.os, hB0.tape, hB0.output, by have := hB0.size; exact this, fun k hk => hB0.block k hk⟩
  refine wpIn_range_own hro (by omega) (gf := 208) (lb := #[.pointer (some ⟨h + 1, 0, none⟩)]) rfl trivial (enters_of Tryz.func208 (by kernel_rfl) rfl) ?_
  intro r hF hst hpe htm hps has hbo
  obtain ⟨L1, D1, hB2⟩ := setup V r
  rw [hsz] at L1 D1 ⊢
  generalize ((V.alloc (.deferred (some []))).alloc (.loop r)) = W1 at L1 D1 hB2 ⊢
  have J0 : NJ w W1 r h b ((x.ins.take 0).map Prod.fst) := ⟨⟨L1, D1, (hB2.block _ (by omega)).trans g1, hBw.trans (hB2.mono (by omega))⟩, _, (hB2.block _ (by omega)).trans g0, rfl, .inl ⟨rfl, rfl⟩⟩
  clear L1 D1 hB2 g0 g1 hB0 hBw
  refine (iter_go (h + 3) (h + 1) b x.ins W1 (fun i W => NJ w W r h b ((x.ins.take i).map Prod.fst)) ((unhide HT).hn d x (unhide HX)).2 hl J0 (fun i W' J => ⟨by rw [unhide HH]; exact J.f.be, by rw [cell_of J.f.xx]; rfl, (World.cell?_of_block (J.f.be.block b hbl)).trans (unhide HD)⟩) ?_ (fun i W' o J => J.alloc o)).mono ?_
  · intro i W2 a n J hi
    refine yield_own hF hst hpe htm hps has hbo rfl J.f.l ?_
    clear htm hps has hbo hst hpe J0
    intro rb
    gi_wp2
    refine ⟨J.f.l, ?_⟩
    have F4 := J.f.put rb (by omega)
    obtain ⟨v, kv, ov⟩ := J.k1
    have k4 := put_other (r' := rb) J.f.l kv (by simp)
    have o4 : Rs h (W2.putObj (h + 3) (.loop rb)) v ((x.ins.take i).map Prod.fst) := own_put ov J.f.l
    generalize W2.putObj (h + 3) (.loop rb) = W4 at *
    have hsn : a.size ≤ 281474976710656 := by have := (unhide HW).nam d x (unhide HX) _ (List.mem_of_getElem? hi); simp only at this; omega
    have Fd : Fy w W4.drew rb h (h + 3) (h + 2) (h + 1) b := ⟨F4.l, F4.dd, F4.xx, below_drew F4.be⟩
    have kd : W4.drew.heap[h]? = some (.cells #[v] 55) := k4
    have od : Rs h W4.drew v ((x.ins.take i).map Prod.fst) := o4
    have HCL := hide (clone_any a W4.drew hsn)
    have hil := (List.getElem?_eq_some_iff.1 hi).1
    have htk : (x.ins.take (i + 1)).map Prod.fst = (x.ins.take i).map Prod.fst ++ [a] := by
      rw [List.take_add_one, hi]; simp
    gi_wp2_with fail
    refine wpIn_region_round (by kernel_rfl) (by kernel_rfl) ?_
    generalize W4.drew = X at *
    have hhX : h ≤ X.heap.size := by have := lt_of_heap Fd.l; omega
    have HAP : Hid (∀ w5, Below X.heap.size X w5 → w5.cell? ⟨h, 0, none⟩ = some v ∧ h < w5.heap.size ∧ w5.frozen? ⟨h, 0, none⟩ = false ∧ ∃ v' w6, (∀ ty, (Builtin.append_ #[55, 55] ty #[v, .slice (some ⟨w5.heap.size, 0, none⟩) 1 1]).run Tryz.prog (w5.alloc (.cells #[.string a] 9)) = .ok v' w6) ∧ (∃ g' c', v' = .slice (some ⟨g', 0, none⟩) (i + 1) c') ∧ w6.cell? ⟨h, 0, none⟩ = some v ∧ w6.frozen? ⟨h, 0, none⟩ = false ∧ Hid ((w6.setCell ⟨h, 0, none⟩ v').heap[h + 3]? = some (.loop rb) ∧ True ∧ NJ w ((w6.setCell ⟨h, 0, none⟩ v').putObj (h + 3) (.loop r)) r h b ((x.ins.take (i + 1)).map Prod.fst))) := by
      intro w5 hb5
      have kp : ∀ {k : Nat} {o : Obj}, X.heap[k]? = some o → w5.heap[k]? = some o := fun e => (hb5.block _ (lt_of_heap e)).trans e
      have k5 := kp kd
      have o5 : Rs h w5 v ((x.ins.take i).map Prod.fst) := own_keep od fun k _ e => hb5.block k (lt_of_heap e)
      have F5 : Fy w w5 rb h (h + 3) (h + 2) (h + 1) b := ⟨kp Fd.l, kp Fd.dd, kp Fd.xx, Fd.be.trans (hb5.mono hhX)⟩
      have o5a : (w5.alloc (.cells #[.string a] 9)).ownsRow h 9 1 v ((x.ins.take i).map Prod.fst).length (strV ((x.ins.take i).map Prod.fst)) := own_keep o5 fun k _ e => Below.heap_alloc _ _ _ (lt_of_heap e)
      obtain ⟨i0, hi0, hz0, hz1, hz2⟩ := info_parts info9
      have hlen : ((x.ins.take i).map Prod.fst).length = i := by simp; omega
      obtain ⟨v', w6, hr, ho, hg, hne, hat⟩ := run_append_own_at (P := Tryz.prog) (w5.alloc (.cells #[.string a] 9)) h 55 55 9 i0 (.string ByteArray.empty) 1 16 Tryz.underlying55 hi0 hz0 hz1 hz2 rfl (by decide) v _ _ o5a ⟨w5.heap.size, 0, none⟩ 1 1 [.string a] rfl (fun j u hj => by
          match j, hj with
          | 0, hj => simp at hj; subst hj; rw [Addr.add_lit, cell_of (heap_alloc_new w5 _)]; rfl) (by intro u hu; simp at hu; subst hu; rfl) (by rw [hlen]; unfold maxLen; omega) (by rw [hlen]; omega) (by simp; have := hb5.size; omega)
      have hbm := box_more F5 k5 o5 hg ho (Nat.le_refl _) (by decide) (by decide) (by decide)
      refine ⟨by rw [cell_of k5]; rfl, by have := hb5.size; have := lt_of_heap kd; omega, frozen_of k5 0, v', w6, fun ty => by rw [← hr]; rfl, ?_, by rw [cell_of hbm.2.1]; rfl, frozen_of hbm.2.1 0, hbm.1.l, trivial, hbm.1.put r (by omega), v', put_other hbm.1.l hbm.2.2.1 (by simp), ?_⟩
      · obtain ⟨-, ⟨_, hz⟩ | ⟨g', cap, cur, e1, _⟩⟩ := ho
        · omega
        · exact ⟨g', cap, by rw [e1, hlen]⟩
      · have h7 := own_put (r' := r) hbm.2.2.2 hbm.1.l
        rw [htk]
        have hl2 : ((x.ins.take i).map Prod.fst ++ [a]).length = ((x.ins.take i).map Prod.fst).length + 1 := by simp
        show World.ownsRow _ _ _ _ _ _ _
        rw [hl2]
        have e2 : strV ((x.ins.take i).map Prod.fst ++ [a]) = strV ((x.ins.take i).map Prod.fst) ++ [.string a] := by simp [strV]
        rw [e2]
        exact h7
    have kd0 : X.cell? ⟨h, 0, none⟩ = some v := by rw [cell_of kd]; rfl
    clear J F4 k4 o4 kv ov Fd kd od hi htk hsn hhX
    refine wpAnyIn_take (i := 1) (v := ?_) rfl rfl (by kernel_rfl) (by kernel_rfl) (by kernel_rfl) (fun _ _ _ h => h) ⟨Or.inl ⟨by rfl, ?hy⟩, fun _ => rfl⟩ ?_
    case hy => intro w; go_simp; all_goals with_reducible rfl
    refine wpAnyIn_ready (rs := [0, 2]) (by kernel_rfl) (by simp) ?_
    refine AllReadyIn.cons rfl (fun K hK => ?_) ?_
    · go_simp
      refine hK _ _ ?_
      clear hK K
      refine wpAnyIn_ready (rs := [2]) (by kernel_rfl) (by simp) ?_
      refine AllReadyIn.cons rfl (fun K hK => ?_) ?_
      · go_simp
        refine ⟨trivial, (callsIn_wide.2 (unhide HCL)).mono ?_⟩
        rintro e w5 ⟨rfl, hb5⟩
        obtain ⟨k5, l5, f5, v', w6, hrun, ⟨g', c', hv'⟩, k6, f6, FIN⟩ := unhide HAP w5 hb5
        subst hv'
        clear hb5
        refine hK _ _ ?_
        clear hK K
        refine wpAnyIn_ready (rs := [3]) (by kernel_rfl) (by simp) ?_
        refine AllReadyIn.cons rfl (fun K hK => ?_) ?_
        · go_simp
          refine hK _ _ ?_
          clear hK K
          refine wpAnyIn_ready (rs := [4]) (by kernel_rfl) (by simp) ?_
          refine AllReadyIn.cons rfl (fun K hK => ?_) ?_
          · refine stepIn_append_eq (by rfl) _ _ 55 (by rfl) 55 (by rfl) _ _ (by rfl) (by rfl) _ _ (hrun _) ?_
            refine hK _ _ ?_
            clear hK K
            refine wpAnyIn_ready (rs := [5]) (by kernel_rfl) (by simp) ?_
            refine AllReadyIn.cons rfl (fun K hK => ?_) ?_
            · go_simp
              refine hK _ _ ?_
              clear hK K
              refine wpAnyIn_done (by kernel_rfl) ?_ _
              exact ⟨rfl, unhide FIN⟩
            exact AllReadyIn.nil
          exact AllReadyIn.nil
        exact AllReadyIn.nil
      exact AllReadyIn.nil
    refine AllReadyIn.cons rfl (fun K hK => ?_) ?_
    · go_simp
      refine ⟨trivial, (callsIn_wide.2 (unhide HCL)).mono ?_⟩
      rintro e w5 ⟨rfl, hb5⟩
      obtain ⟨k5, l5, f5, v', w6, hrun, ⟨g', c', hv'⟩, k6, f6, FIN⟩ := unhide HAP w5 hb5
      subst hv'
      clear hb5
      refine hK _ _ ?_
      clear hK K
      refine wpAnyIn_ready (rs := [0, 3]) (by kernel_rfl) (by simp) ?_
      refine AllReadyIn.cons rfl (fun K hK => ?_) ?_
      · go_simp
        refine hK _ _ ?_
        clear hK K
        refine wpAnyIn_ready (rs := [3]) (by kernel_rfl) (by simp) ?_
        refine AllReadyIn.cons rfl (fun K hK => ?_) ?_
        · go_simp
          refine hK _ _ ?_
          clear hK K
          refine wpAnyIn_ready (rs := [4]) (by kernel_rfl) (by simp) ?_
          refine AllReadyIn.cons rfl (fun K hK => ?_) ?_
          · refine stepIn_append_eq (by rfl) _ _ 55 (by rfl) 55 (by rfl) _ _ (by rfl) (by rfl) _ _ (hrun _) ?_
            refine hK _ _ ?_
            clear hK K
            refine wpAnyIn_ready (rs := [5]) (by kernel_rfl) (by simp) ?_
            refine AllReadyIn.cons rfl (fun K hK => ?_) ?_
            · go_simp
              refine hK _ _ ?_
              clear hK K
              refine wpAnyIn_done (by kernel_rfl) ?_ _
              exact ⟨rfl, unhide FIN⟩
            exact AllReadyIn.nil
          exact AllReadyIn.nil
        exact AllReadyIn.nil
      refine AllReadyIn.cons rfl (fun K hK => ?_) ?_
      · go_simp
        refine hK _ _ ?_
        clear hK K
        refine wpAnyIn_ready (rs := [0]) (by kernel_rfl) (by simp) ?_
        refine AllReadyIn.cons rfl (fun K hK => ?_) ?_
        · go_simp
          refine hK _ _ ?_
          clear hK K
          refine wpAnyIn_ready (rs := [4]) (by kernel_rfl) (by simp) ?_
          refine AllReadyIn.cons rfl (fun K hK => ?_) ?_
          · refine stepIn_append_eq (by rfl) _ _ 55 (by rfl) 55 (by rfl) _ _ (by rfl) (by rfl) _ _ (hrun _) ?_
            refine hK _ _ ?_
            clear hK K
            refine wpAnyIn_ready (rs := [5]) (by kernel_rfl) (by simp) ?_
            refine AllReadyIn.cons rfl (fun K hK => ?_) ?_
            · go_simp
              refine hK _ _ ?_
              clear hK K
              refine wpAnyIn_done (by kernel_rfl) ?_ _
              exact ⟨rfl, unhide FIN⟩
            exact AllReadyIn.nil
          exact AllReadyIn.nil
        exact AllReadyIn.nil
      exact AllReadyIn.nil
    exact AllReadyIn.nil
  · rintro e W2 ⟨rfl, J⟩
    refine ⟨⟨_, rfl⟩, J.f.l, ?_⟩
    have F6 := J.f.put { r with state := .exhausted } (by omega)
    obtain ⟨v, kv, ov⟩ := J.k1
    have k1 := put_other (r' := { r with state := .exhausted }) J.f.l kv (by simp)
    have o1 : Rs h (W2.putObj (h + 3) (.loop { r with state := .exhausted })) v _ := own_put ov J.f.l
    generalize W2.putObj (h + 3) (.loop { r with state := .exhausted }) = W3 at F6 k1 o1 ⊢
    have e0 : W3.cell? ⟨h, 0, none⟩ = some v := by rw [cell_of k1]; rfl
    rw [List.take_length] at o1
    have HO := hide o1
    have HD6 := hide F6.dd
    have HB6 := hide F6.be
    clear J J0 F6 k1 kv ov o1 htm hps has hbo hst hpe
    gi_wp2_with fail
    refine ⟨by simp, .inl ⟨_, _, rfl, run_takeDeferred (unhide HD6), ?_⟩⟩
    have hb := unhide HB6
    have be7 : Below h w (W3.putObj (h + 2) (.deferred none)) := ⟨hb.os, hb.tape, hb.output, by rw [World.putObj_size]; exact hb.size, fun k hk => (World.putObj_heap_other (by omega)).trans (hb.block k hk)⟩
    have o7 : Rs h (W3.putObj (h + 2) (.deferred none)) v (x.ins.map Prod.fst) := own_keep (unhide HO) fun k cur hc => World.putObj_heap_other (by rintro rfl; rw [unhide HD6] at hc; simp at hc)
    rw [unhide HH]
    exact ⟨_, by simp [results, Tryz.results56, go_sem], v, rfl, o7, be7⟩
theorem names_any {w : World} (hT : TrI lo N w t T q p nb ev) (hw : Wk B T) (hB : B ≤ 900) {n : Int} (hn : (kl n).wf = true) :
    Calls Tryz.prog 56 #[P0 t, I n] w fun e w' => ∃ v, e = .returned v ∧ Rs w.heap.size w' v (T.names n) ∧ Below w.heap.size w w' := by
  have none' : T.dir n = none → Calls Tryz.prog 56 #[P0 t, I n] w fun e w' => ∃ v, e = .returned v ∧ Rs w.heap.size w' v (T.names n) ∧ Below w.heap.size w w' := fun hd => by
    have e : T.names n = [] := by simp [Tr.names, hd]
    rw [e]
    have HD : ∃ pv, Hid (Calls Tryz.prog 116 #[P0 t, I n] w fun e w' => e = .returned (.tuple #[pv, .bool false]) ∧ ∃ k, w' = w.drewN k) := by
      cases hx : T.nd n with
      | none => exact ⟨_, dir_none hT hn hx⟩
      | some x =>
        have h1 := dir_some hT hn hx
        have hk : ¬ x.kind = 1 := fun hk => by simp [Tr.dir, hx, hk] at hd
        simp only [hk, decide_false] at h1
        exact ⟨_, h1⟩
    obtain ⟨pv, HD⟩ := HD
    clear hT hw hd e
    go_enter Tryz.func56, Tryz.ntmps56
    go_wp2_with (go_at_call 116; refine (unhide HD).mono ?_; rintro e w' ⟨rfl, k, rfl⟩)
    go_ret
    exact ⟨_, rfl, ⟨rfl, .inl ⟨rfl, rfl⟩⟩, below_n _ _⟩
  cases hd : T.dir n with
  | none => exact none' hd
  | some x =>
    obtain ⟨hx, hk⟩ := Tr.dir_some.1 hd
    have e : T.names n = x.ins.map Prod.fst := by simp [Tr.names, hd]
    rw [e]
    exact callsIn_wide.1 (names_in hT hw hB hx hk)
end
end Go.Proofs.YtlngeaacjbdmhaaGreat

namespace Go.Proofs.YtlngeaacjbdmhaaGreat
open Go.RowKit Go.Maps
section
variable {lo N : Nat} {W W' : World} {t : Nat} {T : Tr} {B : Nat}
theorem join_Q (h : Tq lo N W t T B) (hB : B ≤ 880) {dir n : Int} (hn : (kl dir).wf = true) (hnn : (kl n).wf = true) (s : ByteArray) (y : Int) (T' : Tr) (hy : T.joinE dir s n = y) (hT : T.join dir s n = T') :
    Calls Tryz.prog 66 #[P0 t, I dir, .string s, I n] W fun e w' => e = .returned (I y) ∧ Hid (Tq lo N w' t T' (B + 1)) ∧ Hid (Tx lo W w') := by
  obtain ⟨⟨q, p, nb, ev, h1⟩, h2⟩ := h
  refine (join_any h1 h2.k (by omega) hn hnn s).mono ?_
  rintro e w' ⟨rfl, h3, h4⟩
  rw [hy]
  have := h2.join dir s n
  rw [hT] at this h3
  exact ⟨rfl, ⟨h3, this⟩, h4⟩
theorem move_Q (h : Tq lo N W t T B) (hB : B ≤ 880) {dir to : Int} (hn : (kl dir).wf = true) (hto : (kl to).wf = true) (s s2 : ByteArray) {l : List Int} (hl : Ab T to l) (y : Int) (T' : Tr) (hy : T.moveE l dir s to s2 = y) (hT : T.move l dir s to s2 = T') :
    Calls Tryz.prog 69 #[P0 t, I dir, .string s, I to, .string s2] W fun e w' => e = .returned (I y) ∧ Hid (Tq lo N w' t T' (B + 1)) ∧ Hid (Tx lo W w') := by
  obtain ⟨⟨q, p, nb, ev, h1⟩, h2⟩ := h
  refine (move_any h1 h2 hB hn hto s s2 hl).mono ?_
  rintro e w' ⟨rfl, h3, h4⟩
  rw [hy]
  have := h2.move dir s to s2 hl
  rw [hT] at this h3
  exact ⟨rfl, ⟨h3, this⟩, h4⟩
theorem up_Q (h : Tq lo N W t T B) {n : Int} (hn : (kl n).wf = true) (y : Int) (hy : T.up n = y) :
    Calls Tryz.prog 89 #[P0 t, I n] W fun e w' => e = .returned (I y) ∧ Hid (Tq lo N w' t T B) ∧ Hid (Below W.heap.size W w') := by
  have h' := h
  obtain ⟨⟨q, p, nb, ev, h1⟩, h2⟩ := h
  refine (up_any h1 hn).mono ?_
  rintro e w' ⟨rfl, k, rfl⟩
  rw [hy]
  exact ⟨rfl, h'.below (below_n _ k), below_n _ k⟩
theorem text_Q (h : Tq lo N W t T B) {n : Int} (hn : (kl n).wf = true) (y : ByteArray) (hy : T.textOf n = y) :
    Calls Tryz.prog 58 #[P0 t, I n] W fun e w' => e = .returned (.string y) ∧ Hid (Tq lo N w' t T B) ∧ Hid (Below W.heap.size W w') := by
  have h' := h
  obtain ⟨⟨q, p, nb, ev, h1⟩, h2⟩ := h
  refine (text_any h1 h2.k hn).mono ?_
  rintro e w' ⟨rfl, h3⟩
  rw [hy]
  exact ⟨rfl, h'.below h3, h3⟩
theorem names_Q (h : Tq lo N W t T B) (hB : B ≤ 880) {n : Int} (hn : (kl n).wf = true) :
    Calls Tryz.prog 56 #[P0 t, I n] W fun e w' => ∃ v, e = .returned v ∧ Hid (Rs W.heap.size w' v (T.names n)) ∧ Hid (Tq lo N w' t T B) ∧ Hid (Below W.heap.size W w') := by
  have h' := h
  obtain ⟨⟨q, p, nb, ev, h1⟩, h2⟩ := h
  refine (names_any h1 h2.k (by omega) hn).mono ?_
  rintro e w' ⟨v, rfl, hr, hb⟩
  exact ⟨v, rfl, hr, h'.below hb, hb⟩
end
end Go.Proofs.YtlngeaacjbdmhaaGreat

namespace Go.Proofs.YtlngeaacjbdmhaaGreat
open Go.RowKit
theorem Srt.ext : ∀ {l m : List Ent}, Srt l → Srt m → (∀ e, e ∈ l ↔ e ∈ m) → l = m
  | [], [], _, _, _ => rfl
  | [], b :: m, _, _, h => by have := (h b).2 (by simp); simp at this
  | a :: l, [], _, _, h => by have := (h a).1 (by simp); simp at this
  | a :: l, b :: m, hl, hm, h => by
    obtain ⟨l1, l2⟩ := List.pairwise_cons.1 hl
    obtain ⟨m1, m2⟩ := List.pairwise_cons.1 hm
    have hab : a = b := by
      rcases List.mem_cons.1 ((h a).1 (by simp)) with e | ha
      · exact e
      · rcases List.mem_cons.1 ((h b).2 (by simp)) with e | hb
        · exact e.symm
        · have h1 := m1 a ha
          have h2 := cmpS_flip.1 (l1 b hb)
          omega
    subst hab
    congr 1
    refine Srt.ext l2 m2 fun e => ⟨fun he => ?_, fun he => ?_⟩
    · rcases List.mem_cons.1 ((h e).1 (List.mem_cons_of_mem _ he)) with e1 | e1
      · subst e1; exact absurd rfl (cmpS_ne (l1 _ he))
      · exact e1
    · rcases List.mem_cons.1 ((h e).2 (List.mem_cons_of_mem _ he)) with e1 | e1
      · subst e1; exact absurd rfl (cmpS_ne (m1 _ he))
      · exact e1
theorem put_del {l : List Ent} (h : Srt l) {s : ByteArray} {n : Int} (hg : getE l s = some n) : putE (delE l s) s n = l := by
  refine Srt.ext ((h.del s).put (by rw [delE_get h hg, if_pos rfl]) n) h fun e => ?_
  rw [putE_mem, delE_mem h hg]
  constructor
  · rintro (rfl | ⟨h1, _⟩)
    · exact getE_some hg
    · exact h1
  · intro he
    by_cases e1 : e.1 = s
    · exact .inl (h.uniq he (getE_some hg) e1)
    · exact .inr ⟨he, e1⟩
section
variable {B : Nat} {T : Tr}
def LkB (T : Tr) : Prop := ∀ n x, T.nd n = some x → x.kind = 1 → T.links x ≤ 16
theorem links_congr {T T' : Tr} {x : Nd} (h : ∀ e ∈ x.ins, T'.kindOf e.2 = T.kindOf e.2) : T'.links x = T.links x := by
  simp only [Tr.links]
  rw [List.countP_congr fun e he => by rw [h e he]]
theorem LkB.new (nodes blocks : Nat) : LkB (Tr.new nodes blocks) := by
  intro n x h _
  simp only [Tr.new] at h
  split at h
  · cases h; simp [Tr.links]
  · cases h
theorem LkB.make (hw : Wf B T) (hL : LkB T) (dir : Int) (s : ByteArray) (kind mode uid gid : Int) (text : ByteArray) : LkB (T.make dir s kind mode uid gid text) := by
  by_cases h : T.makeE dir s kind text = 0
  · obtain ⟨d, h1, h2, h3, h4, h5, h6, h7⟩ := Tr.makeE0 h
    have hl16 : ¬ (kind = 1 ∧ T.links d = 16) := by
      intro hc
      have hd : T.dir dir = some d := Tr.dir_some.2 ⟨h1, h2⟩
      simp only [Tr.makeE, hd] at h
      split at h
      · rw [if_neg (by simp [refusesE, h3]; omega)] at h
        omega
      · omega
    have hnd := fun k => Tr.make_nd hw.k (mode := mode) (uid := uid) (gid := gid) h h1 k
    have hkey : ∀ m y, T.nd m = some y → m ≠ (T.made : Int) + 1 := fun m y hy => by
      have := hw.k.key m y hy
      omega
    have hko : ∀ m, m ≠ (T.made : Int) + 1 → (T.make dir s kind mode uid gid text).kindOf m = T.kindOf m := by
      intro m hm
      simp only [Tr.kindOf]
      rw [hnd, if_neg hm]
      by_cases e : m = dir
      · rw [if_pos e, e, h1]
      · rw [if_neg e]
    have hkn : (T.make dir s kind mode uid gid text).kindOf ((T.made : Int) + 1) = kind := by
      simp only [Tr.kindOf]
      rw [hnd, if_pos rfl]
    have hent : ∀ m y, T.nd m = some y → ∀ e ∈ y.ins, (T.make dir s kind mode uid gid text).kindOf e.2 = T.kindOf e.2 := fun m y hy e he => by
      obtain ⟨z, hz⟩ := hw.k.ent hy he
      exact hko e.2 (hkey _ _ hz)
    intro n x hx hk
    rw [hnd] at hx
    by_cases e : n = (T.made : Int) + 1
    · rw [if_pos e] at hx
      cases hx
      simp only at hk
      simp [Tr.links, hk]
    · rw [if_neg e] at hx
      by_cases e2 : n = dir
      · rw [if_pos e2] at hx
        cases hx
        have hd0 := hL dir d h1 h2
        simp only [Tr.links, h2, h4, and_self, if_true] at hd0 hl16 ⊢
        rw [putE_count, List.countP_congr fun e he => by rw [hent dir d h1 e he]]
        simp only [hkn, decide_eq_true_eq]
        split <;> omega
      · rw [if_neg e2] at hx
        rw [links_congr (hent n x hx)]
        exact hL n x hx hk
  · rw [Tr.make, if_neg h]; exact hL
theorem Ab.split {T : Tr} : ∀ {l : List Int} {n m : Int}, Ab T n l → m ∈ l → ∃ l', Ab T m l' ∧ ∀ a ∈ l', a ∈ l
  | [], _, _, _, h => by simp at h
  | u :: l, n, m, g, h => by
    obtain ⟨g1, g2, g3, g4⟩ := g
    rcases List.mem_cons.1 h with rfl | h
    · exact ⟨l, g4, fun a ha => List.mem_cons_of_mem _ ha⟩
    · obtain ⟨l', h1, h2⟩ := Ab.split g4 h
      exact ⟨l', h1, fun a ha => List.mem_cons_of_mem _ (h2 a ha)⟩
end
end Go.Proofs.YtlngeaacjbdmhaaGreat

namespace Go.Proofs.YtlngeaacjbdmhaaGreat.Rb
open Go.RowKit Go.Maps
theorem wf_bounds {x : Int} (h : (Lit.int .i64 x).wf = true) : -9223372036854775808 ≤ x ∧ x ≤ 9223372036854775807 := by
  simp [Lit.wf] at h
  exact h
theorem total_take (l : List (Option F)) (j : Nat) (o : Option F) (h : l[j]? = some o) : total (l.take (j + 1)) = total (l.take j) + usedO o := by
  rw [List.take_add_one, h]
  simp [total_append]
theorem get_nat {s : S} {j : Nat} {o : Option F} (h : s.fs[j]? = some o) : s.get ((j : Int) + 1) = o := by
  simp only [S.get]
  rw [if_pos (by omega), show ((j : Int) + 1).toNat - 1 = j by omega, h]
  cases o <;> rfl
end Go.Proofs.YtlngeaacjbdmhaaGreat.Rb

namespace Go.Proofs.YtlngeaacjbdmhaaGreat.Rb
open Go.RowKit Go.Maps
def bools (h : Nat → Bool) : List Value := (List.range 64).map fun k => .bool (h k)
theorem bools_get (h : Nat → Bool) {k : Nat} (hk : k < 64) : (bools h)[k]? = some (.bool (h k)) := by simp [bools, hk]
theorem bools_len (h : Nat → Bool) : (bools h).length = 64 := by simp [bools]
theorem bools_congr {h h' : Nat → Bool} (e : ∀ k, k < 64 → h k = h' k) : bools h = bools h' := List.map_congr_left fun k hk => by rw [e k (List.mem_range.1 hk)]
structure RF (base lim : Nat) (W : World) (c : Nat) (bv : Value) (x : F) : Prop where
  hc : W.heap[c]? = some (.cells (bv :: bools x.has).toArray 268)
  hb : W.ownsRow base 5 1 bv x.size (lst x.byte 0 x.size)
  lc : base ≤ c ∧ c < lim
  lb : ∀ g, bv.ownBlock = some g → g < lim
  ok : x.Ok
def ptrV (fb : Nat → Nat) (i : Nat) : Option F → Value
  | none => .pointer none
  | some _ => P0 (fb i)
def ptrs (fs : List (Option F)) (fb : Nat → Nat) : List Value := fs.mapIdx (ptrV fb)
theorem ptrs_get (fs : List (Option F)) (fb : Nat → Nat) (i : Nat) : (ptrs fs fb)[i]? = (fs[i]?).map (ptrV fb i) := by simp [ptrs, List.getElem?_mapIdx]
theorem ptrs_len (fs : List (Option F)) (fb : Nat → Nat) : (ptrs fs fb).length = fs.length := by simp [ptrs]
structure RI (base lim n : Nat) (W : World) (q : Nat) (s : S) (Lv : Value) (fb : Nat → Nat) (bv : Nat → Value) : Prop where
  hq : W.heap[q]? = some (.cells #[I n, Lv] 205)
  hL : W.ownsRow base 265 1 Lv s.fs.length (ptrs s.fs fb)
  hx : ∀ i x, s.fs[i]? = some (some x) → RF base lim W (fb i) (bv i) x
  dc : ∀ i j x y, s.fs[i]? = some (some x) → s.fs[j]? = some (some y) → i ≠ j → fb i ≠ fb j ∧ ∀ g, (bv i).ownBlock = some g → (bv j).ownBlock ≠ some g
  lq : base ≤ q ∧ q < lim
  lL : ∀ g, Lv.ownBlock = some g → g < lim
  ll : base ≤ lim ∧ lim ≤ W.heap.size
def Rq (base lim n : Nat) (W : World) (q : Nat) (s : S) : Prop := ∃ Lv fb bv, RI base lim n W q s Lv fb bv
theorem own_at {W : World} {base : Nat} {e : TypeId} {v : Value} {n : Nat} {xs : List Value} (h : W.ownsRow base e 1 v n xs) : (v = .slice none 0 0 ∧ n = 0 ∧ xs = []) ∨ ∃ g cap cur, v = .slice (some ⟨g, 0, none⟩) n cap ∧ base ≤ g ∧ W.heap[g]? = some (.cells cur e) ∧ n ≤ cap ∧ cap ≤ maxLen ∧ cur.size = cap ∧ cur.toList.take n = xs := by
  rcases h with ⟨h1, ⟨h2, h3⟩ | ⟨g, cap, cur, h2, h3, h4, h5, h6, h7, h8⟩⟩
  · refine .inl ⟨h2, h3, ?_⟩
    subst h3
    exact List.eq_nil_of_length_eq_zero (by simpa using h1)
  · exact .inr ⟨g, cap, cur, h2, h3, h4, h5, h6, by simpa using h7, by simpa using h8⟩
theorem own_keep {W W' : World} {base : Nat} {e : TypeId} {v : Value} {n : Nat} {xs : List Value} (h : W.ownsRow base e 1 v n xs) (hk : ∀ g (cur : Array Value), v.ownBlock = some g → W.heap[g]? = some (.cells cur e) → W'.heap[g]? = W.heap[g]?) : W'.ownsRow base e 1 v n xs := by
  obtain ⟨h1, h2 | ⟨g, cap, cur, rfl, h3, h4, h5⟩⟩ := h
  · exact ⟨h1, .inl h2⟩
  · exact ⟨h1, .inr ⟨g, cap, cur, rfl, h3, (hk g cur rfl h4).trans h4, h5⟩⟩
theorem own_cell {W : World} {base : Nat} {e : TypeId} {v : Value} {n : Nat} {xs : List Value} (h : W.ownsRow base e 1 v n xs) {j : Nat} (hj : j < n) : ∃ g cap, v = .slice (some ⟨g, 0, none⟩) n cap ∧ base ≤ g ∧ W.cell? ⟨g, j, none⟩ = xs[j]? ∧ (∀ i, W.frozen? ⟨g, i, none⟩ = false) := by
  rcases own_at h with ⟨_, h2, _⟩ | ⟨g, cap, cur, h1, h2, h3, h4, _, h5, h6⟩
  · omega
  · refine ⟨g, cap, h1, h2, ?_, frozen_of h3⟩
    rw [cell_of h3, ← h6, List.getElem?_take, if_pos hj]
    simp
theorem own_val {W : World} {base : Nat} {e : TypeId} {v : Value} {n : Nat} {xs : List Value} (h : W.ownsRow base e 1 v n xs) : ∃ a cap, v = .slice a n cap ∧ n ≤ cap := by
  rcases own_at h with ⟨h1, h2, _⟩ | ⟨g, cap, cur, h1, _, _, h4, _⟩
  · exact ⟨none, 0, by rw [h1, h2], by omega⟩
  · exact ⟨_, cap, h1, h4⟩
section
variable {base lim n : Nat} {W W' : World} {q : Nat} {s : S} {Lv : Value} {fb : Nat → Nat} {bv : Nat → Value}
theorem RI.keep (h : RI base lim n W q s Lv fb bv) (hs : W.heap.size ≤ W'.heap.size) (hk : ∀ (b : Nat) (cs : Array Value) (t : TypeId) (f : Nat × Nat), W.heap[b]? = some (.cells cs t f) → t = 205 ∨ t = 265 ∨ t = 268 ∨ t = 5 → W'.heap[b]? = W.heap[b]?) : RI base lim n W' q s Lv fb bv :=
  ⟨(hk _ _ _ _ h.hq (by decide)).trans h.hq, own_keep h.hL fun g cur _ hg => hk _ _ _ _ hg (by decide), fun i x hi => ⟨(hk _ _ _ _ (h.hx i x hi).hc (by decide)).trans (h.hx i x hi).hc, own_keep (h.hx i x hi).hb fun g cur _ hg => hk _ _ _ _ hg (by decide), (h.hx i x hi).lc, (h.hx i x hi).lb, (h.hx i x hi).ok⟩, h.dc, h.lq, h.lL, h.ll.1, Nat.le_trans h.ll.2 hs⟩
theorem RI.below (h : RI base lim n W q s Lv fb bv) (g : Below W.heap.size W W') : RI base lim n W' q s Lv fb bv := h.keep g.size fun b _ _ _ hb _ => g.block b (lt_of_heap hb)
theorem RI.mono (h : RI base lim n W q s Lv fb bv) {lim' : Nat} (h1 : lim ≤ lim') (h2 : lim' ≤ W.heap.size) : RI base lim' n W q s Lv fb bv :=
  ⟨h.hq, h.hL, fun i x hi => ⟨(h.hx i x hi).hc, (h.hx i x hi).hb, ⟨(h.hx i x hi).lc.1, by have := (h.hx i x hi).lc.2; omega⟩, fun g hg => by have := (h.hx i x hi).lb g hg; omega, (h.hx i x hi).ok⟩, h.dc, ⟨h.lq.1, by have := h.lq.2; omega⟩, fun g hg => by have := h.lL g hg; omega, by have := h.ll; omega, h2⟩
theorem Rq.below (h : Rq base lim n W q s) (g : Below W.heap.size W W') : Rq base lim n W' q s := let ⟨Lv, fb, bv, h⟩ := h; ⟨Lv, fb, bv, h.below g⟩
theorem Rq.mono (h : Rq base lim n W q s) {lim' : Nat} (h1 : lim ≤ lim') (h2 : lim' ≤ W.heap.size) : Rq base lim' n W q s := let ⟨Lv, fb, bv, h⟩ := h; ⟨Lv, fb, bv, h.mono h1 h2⟩
theorem Rq.nx (h : Rq base lim n W q s) {bs : Bse} (g : Nx bs W W') : Rq base lim n W' q s := let ⟨Lv, fb, bv, h⟩ := h; ⟨Lv, fb, bv, h.keep g.bel.size fun b cs t f hb ht => (g.oth b cs t f hb (by rcases ht with rfl | rfl | rfl | rfl <;> decide) (by rcases ht with rfl | rfl | rfl | rfl <;> decide)).trans hb.symm⟩
theorem RI.cells (h : RI base lim n W q s Lv fb bv) : W.cell? ⟨q, 0, none⟩ = some (I n) ∧ W.cell? ⟨q, 1, none⟩ = some Lv ∧ ∀ i, W.frozen? ⟨q, i, none⟩ = false :=
  ⟨by rw [cell_of h.hq]; rfl, by rw [cell_of h.hq]; rfl, frozen_of h.hq⟩
end
def ofV (s : S) (fb : Nat → Nat) (f : Int) : Value := match s.get f with | none => .pointer none | some _ => P0 (fb (f.toNat - 1))
set_option maxHeartbeats 1000000 in
theorem of_any {base lim n : Nat} {W : World} {q : Nat} {s : S} {Lv : Value} {fb : Nat → Nat} {bv : Nat → Value} (h : RI base lim n W q s Lv fb bv) (f : Int) (hf : (kl f).wf = true) (hl : s.fs.length ≤ 1000000) :
    Calls Tryz.prog 219 #[P0 q, I f] W fun e w' => e = .returned (ofV s fb f) ∧ w' = W := by
  obtain ⟨c0, c1, cf⟩ := h.cells
  have hfb := wf_bounds hf
  by_cases h1 : f < 1
  · have e : ofV s fb f = .pointer none := by simp only [ofV, S.get]; rw [if_neg (by omega)]
    rw [e]
    clear h
    go_enter Tryz.func219, Tryz.ntmps219
    go_wp2_with fail
    go_ret
    exact ⟨rfl, rfl⟩
  · obtain ⟨a, cap, hLv, hcap⟩ := own_val h.hL
    obtain ⟨L, hL⟩ : ∃ L : Nat, L = s.fs.length := ⟨_, rfl⟩
    rw [hLv, ← hL] at c1
    by_cases h2 : (L : Int) < f
    · have e : ofV s fb f = .pointer none := by
        simp only [ofV, S.get]
        rw [if_pos (by omega), List.getElem?_eq_none (by omega)]
        rfl
      rw [e]
      replace hL := hide hL
      clear h hLv hcap
      go_enter Tryz.func219, Tryz.ntmps219
      go_wp2_with fail
      go_ret
      exact ⟨rfl, rfl⟩
    · obtain ⟨k, hk⟩ : ∃ k : Nat, f = (k : Int) + 1 := ⟨(f - 1).toNat, by omega⟩
      have hkL : k < s.fs.length := by omega
      obtain ⟨g, cap2, e1, _, hc, _⟩ := own_cell h.hL hkL
      rw [ptrs_get] at hc
      obtain ⟨o, ho⟩ : ∃ o, s.fs[k]? = some o := ⟨_, List.getElem?_eq_getElem hkL⟩
      rw [ho] at hc
      have e : ofV s fb f = ptrV fb k o := by
        simp only [ofV]
        rw [hk, get_nat ho]
        cases o with
        | none => rfl
        | some x => simp [ptrV]
      rw [e]
      obtain ⟨v, hv⟩ : ∃ v, v = ptrV fb k o := ⟨_, rfl⟩
      rw [e1, hL.symm] at hLv
      cases hLv
      rw [Option.map_some, ← hv] at hc
      rw [← hv]
      have k2 : (k : Int) < (L : Int) := by omega
      have k3 : ¬ ((k : Int) + 1 < 1) := by omega
      have k4 : ¬ ((L : Int) < (k : Int) + 1) := by omega
      have k5 : (k : Int) ≤ 1000000 := by omega
      have k6 : (0 : Int) ≤ (k : Int) := by omega
      subst hk
      replace hL := hide hL
      clear h hv e hcap e1 ho h1 h2
      go_enter Tryz.func219, Tryz.ntmps219
      go_wp2_with fail
      go_ret
      exact ⟨rfl, rfl⟩
end Go.Proofs.YtlngeaacjbdmhaaGreat.Rb

namespace Go.Proofs.YtlngeaacjbdmhaaGreat.Rb
open Go.RowKit Go.Maps
theorem RF.cells {base lim : Nat} {W : World} {c : Nat} {bv : Value} {x : F} (h : RF base lim W c bv x) : W.cell? ⟨c, 0, none⟩ = some bv ∧ (∀ k, k < 64 → W.cell? ⟨c, 1 + k, none⟩ = some (.bool (x.has k))) ∧ ∀ i, W.frozen? ⟨c, i, none⟩ = false := by
  refine ⟨by rw [cell_of h.hc]; rfl, fun k hk => ?_, frozen_of h.hc⟩
  rw [cell_of h.hc]
  simp only [List.getElem?_toArray]
  rw [Nat.add_comm, List.getElem?_cons_succ, bools_get x.has hk]
theorem Sget_at {s : S} {f : Int} {x : F} (h : s.get f = some x) : s.fs[f.toNat - 1]? = some (some x) := (S.get_at h).2
set_option maxHeartbeats 1000000 in
theorem rsize_any {base lim n : Nat} {W : World} {q : Nat} {s : S} (h : Rq base lim n W q s) (f : Int) (hf : (kl f).wf = true) (hl : s.fs.length ≤ 1000000) :
    Calls Tryz.prog 145 #[P0 q, I f] W fun e w' => e = .returned (I (sizeO (s.get f))) ∧ w' = W := by
  obtain ⟨Lv, fb, bv, h⟩ := h
  cases e : s.get f with
  | none =>
    have he : ofV s fb f = .pointer none := by simp only [ofV, e]
    go_enter Tryz.func145, Tryz.ntmps145
    go_wp2_with fail
    refine (of_any h f hf hl).mono ?_
    rintro e w1 ⟨rfl, rfl⟩
    rw [he]
    go_wp2_with fail
    go_ret
    exact ⟨rfl, rfl⟩
  | some x =>
    have he : ofV s fb f = P0 (fb (f.toNat - 1)) := by simp only [ofV, e]
    have hx := h.hx _ x (Sget_at e)
    obtain ⟨c0, _, _⟩ := hx.cells
    obtain ⟨a, cap, hb, _⟩ := own_val hx.hb
    rw [hb] at c0
    clear hb
    go_enter Tryz.func145, Tryz.ntmps145
    go_wp2_with fail
    refine (of_any h f hf hl).mono ?_
    rintro e w1 ⟨rfl, rfl⟩
    rw [he]
    go_wp2_with fail
    go_ret
    exact ⟨rfl, rfl⟩
theorem rnew_any (n : Nat) (l : Nat) (w : World) : Calls Tryz.prog 61 #[I (n : Int)] w fun e w' => e = .returned (P0 w.heap.size) ∧ Rq w.heap.size w'.heap.size n w' w.heap.size ⟨l, []⟩ ∧ Below w.heap.size w w' := by
  go_enter Tryz.func61, Tryz.ntmps61
  go_wp2_with fail
  go_ret
  refine ⟨rfl, ?_, (Below.refl _ w).alloc (Nat.le_refl _) _⟩
  have hno : ∀ (i : Nat) (x : F), (⟨l, []⟩ : S).fs[i]? = some (some x) → False := fun i x h => by simp at h
  exact ⟨.slice none 0 0, fun _ => 0, fun _ => .slice none 0 0, heap_alloc_new _ _, World.ownsRow_nil _ _ _ _, fun i x h => (hno i x h).elim, fun i _ x _ h => (hno i x h).elim, ⟨Nat.le_refl _, by simp⟩, fun g hg => (by cases hg), ⟨by simp, Nat.le_refl _⟩⟩
end Go.Proofs.YtlngeaacjbdmhaaGreat.Rb
