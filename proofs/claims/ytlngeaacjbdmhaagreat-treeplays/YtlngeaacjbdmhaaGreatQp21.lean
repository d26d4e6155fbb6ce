/-
  The contract of Read at a text that is not refused as a whole: its parts, one by one.
-/
import Derived.Test.YtlngeaacjbdmhaaGreatQp20
import Derived.Test.YtlngeaacjbdmhaaGreatQp19
namespace Go.Proofs.YtlngeaacjbdmhaaGreat.Nm
open Go.RowKit Go.Shelf
attribute [local go_sem] Oper.semAt_some
set_option maxRecDepth 100000 in
set_option maxHeartbeats 1000000 in
theorem read_yes (l : List UInt8) (w : World) (href : ref1 l = 0) :
    CallsIn Fence.wide 4 Tryz.prog 157 #[S l] w fun e w' => ∃ v, e = .returned (.tuple #[.agg #[.bool (rt l), .bool (sl l), v], .int .i64 (err l)]) ∧ w'.ownsRow w.heap.size 9 1 v (ps l).length (strs (ps l)) ∧ Below w.heap.size w w' := by
  have hro : Fence.wide.round = none := rfl
  have H := hide (refusal_any l)
  obtain ⟨hl0, hl1, hl2⟩ := ref_ok href
  rw [href] at H
  obtain ⟨i0, hi, hz0, hz1, hz2⟩ := info_parts info9
  have hs9 : (bs l).size ≤ 9223372036854775807 := by simp [ByteArray.size]; omega
  refine callsIn_of_wp_marks Tryz.func157 rfl trivial ?_ hro
  simp only [Tryz.ntmps157, List.size_toArray, List.length_cons, List.length_nil, Nat.reduceAdd, Nat.reduceSub, Array.replicate_succ, Array.replicate_zero, List.push_toArray, List.append_toArray, List.nil_append, List.cons_append]
  gi_wp2_with fail
  refine ⟨trivial, (callsIn_wide.2 (unhide H _)).mono ?_⟩
  rintro e w' ⟨rfl, rfl⟩
  gi_wp2_with fail
  refine ⟨trivial, (callsIn_wide.2 (Tryz.strings_HasPrefix _ _ _)).mono ?_⟩
  rintro e w' ⟨rfl, rfl⟩
  gi_wp2_with fail
  refine ⟨trivial, (callsIn_wide.2 (Tryz.strings_HasSuffix _ _ _ hs9)).mono ?_⟩
  rintro e w' ⟨rfl, rfl⟩
  generalize hpp : Lib.hasPrefix _ _ = pp
  generalize hss : Lib.hasSuffix _ _ = ss
  replace hpp := hide hpp
  replace hss := hide hss
  clear href H
  gi_wp2_with fail
  refine ⟨trivial, (callsIn_wide.2 (parts_any _ _)).mono ?_⟩
  rintro e w' ⟨rfl, rfl⟩
  gi_wp2_with fail
  obtain ⟨V, hV, hsz, g0, g1, g2, g3, hB⟩ := four0 w (.cells #[.bool false, .bool false, .slice none 0 0] 234) (.cells #[.int .i64 0] 24) (.cells #[.bool pp, .bool ss, .slice none 0 0] 234) (.cells #[S l] 9)
  rw [hV]
  clear hV
  generalize hh : w.heap.size = h at *
  have HH : Hid (w.heap.size = h) := hh
  simp only [Nat.add_assoc, Nat.reduceAdd]
  refine wpIn_range_ret hro (by omega) (gf := 289) (lb := #[.pointer (some ⟨h + 3, 0, none⟩)]) rfl trivial (enters_of Tryz.func289 (by kernel_rfl) rfl) ?_
  intro r hF hst hpe htm hps has hbo
  obtain ⟨L1, D1, hB2⟩ := setup V r
  rw [hsz] at L1 D1 ⊢
  have x1 := (hB2.block _ (by omega)).trans g3
  generalize ((V.alloc (.deferred (some []))).alloc (.loop r)) = W1 at L1 D1 hB2 x1 ⊢
  have J0 : RJ w W1 r h l pp ss l := ⟨L1, D1, hB.trans (hB2.mono (by omega)), (hB2.block _ (by omega)).trans g0, (hB2.block _ (by omega)).trans g1, .slice none 0 0, [], (hB2.block _ (by omega)).trans g2, rfl, by simp, World.ownsRow_nil _ _ _ _⟩
  clear L1 D1 hB2 g0 g1 g2 g3 hB
  refine (iter_go (h + 5) (h + 3) l W1 (fun rest W => RJ w W r h l pp ss rest) (fun W => RE w W h l) (by omega) J0 (by rw [cell_of x1]; rfl) (fun _ _ n J => J.drewN n) (fun _ _ J hb => J.skip hb) ?_).mono ?_
  · intro rest W2 J hrl hbn
    refine yield_ret hF hst hpe htm hps has hbo rfl J.lp ?_
    clear htm hps has hbo hst hpe J0 x1
    intro rb
    gi_wp2
    refine ⟨J.lp, ?_⟩
    have J4 := J.put rb
    have HP := hide (fun (W : World) (J : RJ w W rb h l pp ss (behind rest)) => J.put r)
    generalize W2.putObj (h + 5) (.loop rb) = W4 at *
    clear J
    obtain ⟨v, dn, o1, o2, o3, o4⟩ := J4.ow
    generalize hbf : before rest = q at *
    have hq : parts rest = q :: parts (behind rest) := by rw [parts_cut, hbf]; simp [piece, hbn]
    have z0 : W4.cell? ⟨h, 0, none⟩ = some (.bool false) := by rw [cell_of J4.k0]; rfl
    have z1 : W4.cell? ⟨h, 1, none⟩ = some (.bool false) := by rw [cell_of J4.k0]; rfl
    have z2 : W4.cell? ⟨h, 2, none⟩ = some (.slice none 0 0) := by rw [cell_of J4.k0]; rfl
    have zf0 : W4.frozen? ⟨h, 0, none⟩ = false := frozen_of J4.k0 0
    have zf1 : W4.frozen? ⟨h, 1, none⟩ = false := frozen_of J4.k0 1
    have zf2 : W4.frozen? ⟨h, 2, none⟩ = false := frozen_of J4.k0 2
    have y0 : W4.cell? ⟨h + 1, 0, none⟩ = some (.int .i64 0) := by rw [cell_of J4.k1]; rfl
    have yf : W4.frozen? ⟨h + 1, 0, none⟩ = false := frozen_of J4.k1 0
    by_cases hlong : 255 < q.length
    · have hl3 : (255 : Int) < (q.length : Int) := by omega
      have lp4 := J4.lp
      have HJ := hide J4
      have HQ := hide (⟨q, by rw [o2, hq]; simp, hlong⟩ : ∃ q ∈ parts l, 255 < q.length)
      clear J4 o1 o4 o2 o3 hq hlong hbf hbn hl0 hl1 hl2 hi hz0 hz1 hz2 hs9
      obtain ⟨X, hX⟩ : ∃ X, (((W4.setCell ⟨h, 0, none⟩ (.bool false)).setCell ⟨h, 1, none⟩ (.bool false)).setCell ⟨h, 2, none⟩ (.slice none 0 0)).setCell ⟨h + 1, 0, none⟩ (.int .i64 45) = X := ⟨_, rfl⟩
      refine wpIn_mono (Q := fun e _ w1 => e = .ret ∧ w1 = X) ?_ ?_
      · rw [← hX]
        clear hX lp4 HJ HQ HP hF hh hsz HH
        gi_wp2_with fail
      · rintro e a w1 ⟨rfl, rfl⟩
        have J4 := unhide HJ
        have kp : ∀ {k : Nat} {o : Obj}, W4.heap[k]? = some o → k ≠ h → k ≠ h + 1 → w1.heap[k]? = some o := fun h1 h2 h3 => by
          rw [← hX, Below.heap_setCell _ _ _ _ h3, Below.heap_setCell _ _ _ _ h2, Below.heap_setCell _ _ _ _ h2, Below.heap_setCell _ _ _ _ h2]; exact h1
        have q0 : w1.heap[h]? = some (.cells #[.bool false, .bool false, .slice none 0 0] 234) := by
          rw [← hX, Below.heap_setCell _ _ _ _ (by simp), heap_set (heap_set (heap_set J4.k0 0 _) 1 _) 2 _]; simp
        have q1 : w1.heap[h + 1]? = some (.cells #[.int .i64 45] 24) := by
          rw [← hX, heap_set (((Below.heap_setCell _ _ _ _ (by simp)).trans ((Below.heap_setCell _ _ _ _ (by simp)).trans ((Below.heap_setCell _ _ _ _ (by simp)).trans J4.k1)))) 0 _]; simp
        have lp := kp J4.lp (by omega) (by omega)
        have be : Below h w w1 := by
          rw [← hX]
          exact (((J4.be.setCell (p := ⟨h, 0, none⟩) (by simp) _).setCell (p := ⟨h, 1, none⟩) (by simp) _).setCell (p := ⟨h, 2, none⟩) (by simp) _).setCell (p := ⟨h + 1, 0, none⟩) (by simp) _
        exact ⟨lp, .inr ⟨rfl, .inr ⟨trivial, ⟨_, rfl, rfl, World.putObj_heap_same (lt_of_heap lp)⟩, put_other lp (kp J4.dd (by omega) (by omega)) (by simp), below_put be (by omega), put_other lp q0 (by simp), put_other lp q1 (by simp), unhide HQ⟩⟩⟩
    · have hl3 : ¬ (255 : Int) < (q.length : Int) := by omega
      obtain ⟨v, c0, MORE⟩ := J4.drew.more hq (by omega) hl1
      replace MORE := hide MORE
      obtain ⟨R, hR⟩ : ∃ R : World → Prop, R = fun w1 => w1.heap[h + 5]? = some (.loop rb) ∧ RJ w w1 rb h l pp ss (behind rest) := ⟨_, rfl⟩
      have HR : Hid (∀ w1 : World, w1.heap[h + 5]? = some (.loop rb) ∧ RJ w w1 rb h l pp ss (behind rest) → R w1) := hide (fun w1 h1 => by rw [hR]; exact h1)
      replace hR := hide hR
      have hqs : (bs q).size ≤ 281474976710656 := by simp [ByteArray.size]; omega
      refine wpIn_mono (Q := fun e _ w1 => e = .normal ∧ R w1) ?_ ?_
      · clear HP hF hh hsz HH J4 o1 o4 o2 o3 hq hlong hbf hbn hl0 hl1 hl2 hi hz0 hz1 hz2 hs9 z0 z1 z2 zf0 zf1 zf2 y0 yf
        gi_wp2_with fail
        refine wpIn_region_round (by kernel_rfl) (by kernel_rfl) ?_
        generalize W4.drew = X at *
        refine wpAnyIn_take (i := 0) (v := ?_) rfl rfl (by kernel_rfl) (by kernel_rfl) (by kernel_rfl) (fun _ _ _ h => h) ⟨Or.inl ⟨by rfl, ?hy⟩, fun _ => rfl⟩ ?_
        case hy => intro w; go_simp; all_goals with_reducible rfl
        refine wpAnyIn_take (i := 2) (v := ?_) rfl rfl (by kernel_rfl) (by kernel_rfl) (by kernel_rfl) (fun _ _ _ h => h) ⟨Or.inl ⟨by rfl, ?hy⟩, fun _ => rfl⟩ ?_
        case hy => intro w; go_simp; all_goals with_reducible rfl
        refine wpAnyIn_ready (rs := [1, 3]) (by kernel_rfl) (by simp) ?_
        refine AllReadyIn.cons rfl (fun K hK => ?_) ?_
        · go_simp
          refine hK _ _ ?_
          clear hK K
          refine wpAnyIn_ready (rs := [3]) (by kernel_rfl) (by simp) ?_
          refine AllReadyIn.cons rfl (fun K hK => ?_) ?_
          · go_simp
            refine ⟨trivial, (callsIn_wide.2 (clone_any _ _ hqs)).mono ?_⟩
            rintro e X2 ⟨rfl, hB⟩
            obtain ⟨cx, cy, sa, sm, sc, W6, hrun, d0, df, FIN⟩ := unhide MORE X2 hB
            replace FIN := hide (unhide HR _ FIN)
            clear hB
            refine hK _ _ ?_
            clear hK K
            refine wpAnyIn_ready (rs := [4]) (by kernel_rfl) (by simp) ?_
            refine AllReadyIn.cons rfl (fun K hK => ?_) ?_
            · go_simp
              refine hK _ _ ?_
              clear hK K
              refine wpAnyIn_ready (rs := [5]) (by kernel_rfl) (by simp) ?_
              refine AllReadyIn.cons rfl (fun K hK => ?_) ?_
              · refine stepIn_append_eq (by rfl) _ _ 55 (by rfl) 55 (by rfl) _ _ (by rfl) (by rfl) _ _ hrun ?_
                refine hK _ _ ?_
                clear hK K
                refine wpAnyIn_ready (rs := [6]) (by kernel_rfl) (by simp) ?_
                refine AllReadyIn.cons rfl (fun K hK => ?_) ?_
                · go_simp
                  refine hK _ _ ?_
                  clear hK K
                  refine wpAnyIn_ready (rs := [7]) (by kernel_rfl) (by simp) ?_
                  refine AllReadyIn.cons rfl (fun K hK => ?_) ?_
                  · go_simp
                    refine hK _ _ ?_
                    clear hK K
                    refine wpAnyIn_done (by kernel_rfl) ?_ _
                    gi_wp2_with fail
                    exact FIN
                  exact AllReadyIn.nil
                exact AllReadyIn.nil
              exact AllReadyIn.nil
            exact AllReadyIn.nil
          exact AllReadyIn.nil
        refine AllReadyIn.cons rfl (fun K hK => ?_) ?_
        · go_simp
          refine ⟨trivial, (callsIn_wide.2 (clone_any _ _ hqs)).mono ?_⟩
          rintro e X2 ⟨rfl, hB⟩
          obtain ⟨cx, cy, sa, sm, sc, W6, hrun, d0, df, FIN⟩ := unhide MORE X2 hB
          replace FIN := hide (unhide HR _ FIN)
          clear hB
          refine hK _ _ ?_
          clear hK K
          refine wpAnyIn_ready (rs := [1, 4]) (by kernel_rfl) (by simp) ?_
          refine AllReadyIn.cons rfl (fun K hK => ?_) ?_
          · go_simp
            refine hK _ _ ?_
            clear hK K
            refine wpAnyIn_ready (rs := [4]) (by kernel_rfl) (by simp) ?_
            refine AllReadyIn.cons rfl (fun K hK => ?_) ?_
            · go_simp
              refine hK _ _ ?_
              clear hK K
              refine wpAnyIn_ready (rs := [5]) (by kernel_rfl) (by simp) ?_
              refine AllReadyIn.cons rfl (fun K hK => ?_) ?_
              · refine stepIn_append_eq (by rfl) _ _ 55 (by rfl) 55 (by rfl) _ _ (by rfl) (by rfl) _ _ hrun ?_
                refine hK _ _ ?_
                clear hK K
                refine wpAnyIn_ready (rs := [6]) (by kernel_rfl) (by simp) ?_
                refine AllReadyIn.cons rfl (fun K hK => ?_) ?_
                · go_simp
                  refine hK _ _ ?_
                  clear hK K
                  refine wpAnyIn_ready (rs := [7]) (by kernel_rfl) (by simp) ?_
                  refine AllReadyIn.cons rfl (fun K hK => ?_) ?_
                  · go_simp
                    refine hK _ _ ?_
                    clear hK K
                    refine wpAnyIn_done (by kernel_rfl) ?_ _
                    gi_wp2_with fail
                    exact FIN
                  exact AllReadyIn.nil
                exact AllReadyIn.nil
              exact AllReadyIn.nil
            exact AllReadyIn.nil
          refine AllReadyIn.cons rfl (fun K hK => ?_) ?_
          · go_simp
            refine hK _ _ ?_
            clear hK K
            refine wpAnyIn_ready (rs := [1]) (by kernel_rfl) (by simp) ?_
            refine AllReadyIn.cons rfl (fun K hK => ?_) ?_
            · go_simp
              refine hK _ _ ?_
              clear hK K
              refine wpAnyIn_ready (rs := [5]) (by kernel_rfl) (by simp) ?_
              refine AllReadyIn.cons rfl (fun K hK => ?_) ?_
              · refine stepIn_append_eq (by rfl) _ _ 55 (by rfl) 55 (by rfl) _ _ (by rfl) (by rfl) _ _ hrun ?_
                refine hK _ _ ?_
                clear hK K
                refine wpAnyIn_ready (rs := [6]) (by kernel_rfl) (by simp) ?_
                refine AllReadyIn.cons rfl (fun K hK => ?_) ?_
                · go_simp
                  refine hK _ _ ?_
                  clear hK K
                  refine wpAnyIn_ready (rs := [7]) (by kernel_rfl) (by simp) ?_
                  refine AllReadyIn.cons rfl (fun K hK => ?_) ?_
                  · go_simp
                    refine hK _ _ ?_
                    clear hK K
                    refine wpAnyIn_done (by kernel_rfl) ?_ _
                    gi_wp2_with fail
                    exact FIN
                  exact AllReadyIn.nil
                exact AllReadyIn.nil
              exact AllReadyIn.nil
            exact AllReadyIn.nil
          exact AllReadyIn.nil
        exact AllReadyIn.nil
      · rintro e a w1 ⟨rfl, hr1⟩
        rw [unhide hR] at hr1
        exact ⟨hr1.1, .inl ⟨rfl, .inl ⟨trivial, unhide HP _ hr1.2⟩⟩⟩
  · rintro e W2 ⟨rfl, J | J⟩
    · refine ⟨⟨_, rfl⟩, .inl ⟨J.lp, ?_⟩⟩
      have J6 := J.put { r with state := .exhausted }
      generalize W2.putObj (h + 5) (.loop { r with state := .exhausted }) = W3 at *
      obtain ⟨v, dn, o1, o2, o3, o4⟩ := J6.ow
      rw [parts_nil, List.append_nil] at o2
      have z0 : W3.cell? ⟨h, 0, none⟩ = some (.bool false) := by rw [cell_of J6.k0]; rfl
      have z1 : W3.cell? ⟨h, 1, none⟩ = some (.bool false) := by rw [cell_of J6.k0]; rfl
      have z2 : W3.cell? ⟨h, 2, none⟩ = some (.slice none 0 0) := by rw [cell_of J6.k0]; rfl
      have zf0 : W3.frozen? ⟨h, 0, none⟩ = false := frozen_of J6.k0 0
      have zf1 : W3.frozen? ⟨h, 1, none⟩ = false := frozen_of J6.k0 1
      have zf2 : W3.frozen? ⟨h, 2, none⟩ = false := frozen_of J6.k0 2
      have y0 : W3.cell? ⟨h + 1, 0, none⟩ = some (.int .i64 0) := by rw [cell_of J6.k1]; rfl
      have yf : W3.frozen? ⟨h + 1, 0, none⟩ = false := frozen_of J6.k1 0
      have x0 : W3.cell? ⟨h + 2, 0, none⟩ = some (.bool pp) := by rw [cell_of o1]; rfl
      have x1 : W3.cell? ⟨h + 2, 1, none⟩ = some (.bool ss) := by rw [cell_of o1]; rfl
      have x2 : W3.cell? ⟨h + 2, 2, none⟩ = some v := by rw [cell_of o1]; rfl
      have hok : err l = 0 := err_of hl0 hl1 hl2 (by rw [o2]; exact o3)
      have hrt : rt l = pp := by rw [← unhide hpp]; simp [rt, hok, Lib.hasPrefix]
      have hsl : sl l = ss := by rw [← unhide hss]; simp [sl, hok, Lib.hasSuffix]
      have hps : ps l = dn := by simp [ps, hok, o2]
      have HN := hide (show _ ∧ _ ∧ _ ∧ _ from ⟨hok, hrt, hsl, hps⟩)
      have HJ := hide J6
      have HO := hide o4
      have HO1 := hide o1
      obtain ⟨va, vc, rfl⟩ := own_form o4
      clear J J6 o1 o2 o3 o4 hrt hsl hps hok J0 htm has hbo hst hpe hpp hss hl0 hl1 hl2 hi hz0 hz1 hz2 hs9 hF
      gi_wp2_with fail
      obtain ⟨X, hX⟩ : ∃ X, (((W3.setCell ⟨h, 0, none⟩ (.bool pp)).setCell ⟨h, 1, none⟩ (.bool ss)).setCell ⟨h, 2, none⟩ (.slice va dn.length vc)).setCell ⟨h + 1, 0, none⟩ (.int .i64 0) = X := ⟨_, rfl⟩
      rw [hX]
      have J6 := unhide HJ
      have kp : ∀ {k : Nat} {o : Obj}, W3.heap[k]? = some o → k ≠ h → k ≠ h + 1 → X.heap[k]? = some o := fun h1 h2 h3 => by
        rw [← hX, Below.heap_setCell _ _ _ _ h3, Below.heap_setCell _ _ _ _ h2, Below.heap_setCell _ _ _ _ h2, Below.heap_setCell _ _ _ _ h2]; exact h1
      have q0 : X.heap[h]? = some (.cells #[.bool pp, .bool ss, .slice va dn.length vc] 234) := by
        rw [← hX, Below.heap_setCell _ _ _ _ (by simp), heap_set (heap_set (heap_set J6.k0 0 _) 1 _) 2 _]; simp
      have q1 : X.heap[h + 1]? = some (.cells #[.int .i64 0] 24) := by
        rw [← hX, heap_set (((Below.heap_setCell _ _ _ _ (by simp)).trans ((Below.heap_setCell _ _ _ _ (by simp)).trans ((Below.heap_setCell _ _ _ _ (by simp)).trans J6.k1)))) 0 _]; simp
      have be : Below h w X := by
        rw [← hX]
        exact (((J6.be.setCell (p := ⟨h, 0, none⟩) (by simp) _).setCell (p := ⟨h, 1, none⟩) (by simp) _).setCell (p := ⟨h, 2, none⟩) (by simp) _).setCell (p := ⟨h + 1, 0, none⟩) (by simp) _
      have own7 : X.ownsRow h 9 1 (.slice va dn.length vc) dn.length (strs dn) := own_keep (unhide HO) fun k cur hc => (kp hc (by rintro rfl; rw [J6.k0] at hc; simp at hc) (by rintro rfl; rw [J6.k1] at hc; simp at hc)).trans hc.symm
      have dd5 := kp J6.dd (by omega) (by omega)
      refine ⟨by simp, .inl ⟨_, _, rfl, run_takeDeferred dd5, ?_⟩⟩
      have b7 := below_put (k := h + 4) (o := .deferred none) be (by omega)
      have p0 : (X.putObj (h + 4) (.deferred none)).heap[h]? = _ := (World.putObj_heap_other (by omega)).trans q0
      have p1 : (X.putObj (h + 4) (.deferred none)).heap[h + 1]? = _ := (World.putObj_heap_other (by omega)).trans q1
      have own8 : (X.putObj (h + 4) (.deferred none)).ownsRow h 9 1 (.slice va dn.length vc) dn.length (strs dn) := own_keep own7 fun k cur hc => World.putObj_heap_other (by rintro rfl; rw [dd5] at hc; simp at hc)
      have c0 : (X.putObj (h + 4) (.deferred none)).cell? ⟨h, 0, none⟩ = some (.bool pp) := by rw [cell_of p0]; rfl
      have c1 : (X.putObj (h + 4) (.deferred none)).cell? ⟨h, 1, none⟩ = some (.bool ss) := by rw [cell_of p0]; rfl
      have c2 : (X.putObj (h + 4) (.deferred none)).cell? ⟨h, 2, none⟩ = some (.slice va dn.length vc) := by rw [cell_of p0]; rfl
      have c3 : (X.putObj (h + 4) (.deferred none)).cell? ⟨h + 1, 0, none⟩ = some (.int .i64 0) := by rw [cell_of p1]; rfl
      obtain ⟨n0, n1, n2, n3⟩ := unhide HN
      rw [unhide HH, n0, n1, n2, n3]
      exact ⟨.tuple #[.agg #[.bool pp, .bool ss, .slice va dn.length vc], .int .i64 0], by simp [results, Tryz.results157, go_sem, c0, c1, c2, c3], _, rfl, own8, b7⟩
    · obtain ⟨rd, hd1, hd2, lp⟩ := J.lp
      refine ⟨⟨_, rfl⟩, .inr ⟨rd, hd1, hd2, lp, ?_⟩⟩
      have k0 := put_other (r' := { rd with state := .exhausted }) lp J.k0 (by simp)
      have k1 := put_other (r' := { rd with state := .exhausted }) lp J.k1 (by simp)
      have dd := put_other (r' := { rd with state := .exhausted }) lp J.dd (by simp)
      have be := below_put (k := h + 5) (o := .loop { rd with state := .exhausted }) J.be (by omega)
      have HE := hide J.er
      generalize W2.putObj (h + 5) (.loop { rd with state := .exhausted }) = W3 at *
      have HF := hide (show _ ∧ _ ∧ _ ∧ _ from ⟨k0, k1, dd, be⟩)
      clear J J0 k0 k1 dd be htm hps has hbo hst hpe lp hd1 hd2
      gi_wp2_with fail
      obtain ⟨k0, k1, dd, be⟩ := unhide HF
      refine ⟨by simp, .inl ⟨_, _, rfl, run_takeDeferred dd, ?_⟩⟩
      have q0 : (W3.putObj (h + 4) (.deferred none)).heap[h]? = _ := (World.putObj_heap_other (by omega)).trans k0
      have q1 : (W3.putObj (h + 4) (.deferred none)).heap[h + 1]? = _ := (World.putObj_heap_other (by omega)).trans k1
      have b7 := below_put (k := h + 4) (o := .deferred none) be (by omega)
      have c0 : (W3.putObj (h + 4) (.deferred none)).cell? ⟨h, 0, none⟩ = some (.bool false) := by rw [cell_of q0]; rfl
      have c1 : (W3.putObj (h + 4) (.deferred none)).cell? ⟨h, 1, none⟩ = some (.bool false) := by rw [cell_of q0]; rfl
      have c2 : (W3.putObj (h + 4) (.deferred none)).cell? ⟨h, 2, none⟩ = some (.slice none 0 0) := by rw [cell_of q0]; rfl
      have c3 : (W3.putObj (h + 4) (.deferred none)).cell? ⟨h + 1, 0, none⟩ = some (.int .i64 45) := by rw [cell_of q1]; rfl
      have he : err l = 45 := by
        obtain ⟨q, hq1, hq2⟩ := unhide HE
        unfold err
        rw [if_neg hl0, if_neg (by omega), if_neg hl2, if_pos]
        rw [List.any_eq_true]
        exact ⟨q, hq1, by simpa using hq2⟩
      have e1 : rt l = false := by simp [rt, he]
      have e2 : sl l = false := by simp [sl, he]
      have e3 : ps l = [] := by simp [ps, he]
      rw [unhide HH, e1, e2, e3, he]
      exact ⟨.tuple #[.agg #[.bool false, .bool false, .slice none 0 0], .int .i64 45], by simp [results, Tryz.results157, go_sem, c0, c1, c2, c3], .slice none 0 0, rfl, World.ownsRow_nil _ _ _ _, b7⟩
theorem read_any (l : List UInt8) (w : World) :
    Calls Tryz.prog 157 #[S l] w fun e w' => ∃ v, e = .returned (.tuple #[.agg #[.bool (rt l), .bool (sl l), v], .int .i64 (err l)]) ∧ w'.ownsRow w.heap.size 9 1 v (ps l).length (strs (ps l)) ∧ Below w.heap.size w w' := by
  by_cases h : ref1 l = 0
  · exact callsIn_wide.1 (read_yes l w h)
  · refine (callsIn_wide.1 (read_no l w h)).mono ?_
    rintro e w' ⟨rfl, hB⟩
    have he := ref_err h
    have h1 : err l ≠ 0 := by rw [he]; exact h
    have e1 : rt l = false := by simp [rt, h1]
    have e2 : sl l = false := by simp [sl, h1]
    have e3 : ps l = [] := by simp [ps, h1]
    rw [e1, e2, e3, he]
    exact ⟨_, rfl, World.ownsRow_nil _ _ _ _, hB⟩
end Go.Proofs.YtlngeaacjbdmhaaGreat.Nm

namespace Go.Proofs.YtlngeaacjbdmhaaGreat.Nm
open Go.RowKit
attribute [local go_sem ↓] Go.wp_at_zero Go.wp_at_succ
set_option maxHeartbeats 1000000 in
theorem rdots_any (l : List UInt8) (w : World) : Calls Tryz.prog 214 #[S l] w fun e w' => e = .returned (.bool (dots l)) ∧ w' = w := by
  go_enter Tryz.func214, Tryz.ntmps214
  go_wp2
  all_goals (go_ret; refine ⟨?_, rfl⟩; simp_all [dots])
theorem take_mem {l : List UInt8} {k : Nat} (h : k < l.length) (c : UInt8) : c ∈ l.take (k + 1) ↔ c ∈ l.take k ∨ c = l[k] := by
  rw [List.take_add_one, List.getElem?_eq_getElem h, List.mem_append]
  simp
theorem byte_is {c d : UInt8} (n : Nat) (hn : d.toNat = n) (h : c = d) : c.toNat = n ∧ (c.toNat : Int) = (n : Int) := by subst h; subst hn; exact ⟨rfl, rfl⟩
theorem byte_not {c d : UInt8} (n : Nat) (hn : d.toNat = n) (h : ¬ c = d) : ¬ c.toNat = n ∧ ¬ (c.toNat : Int) = (n : Int) := by
  subst hn
  have h1 : ¬ c.toNat = d.toNat := fun e => h (UInt8.toNat_inj.1 e)
  exact ⟨h1, by omega⟩
theorem is0 {c : UInt8} (h : c = 0) : c.toNat = 0 ∧ (c.toNat : Int) = 0 := byte_is 0 rfl h
theorem is47 {c : UInt8} (h : c = 47) : c.toNat = 47 ∧ (c.toNat : Int) = 47 := byte_is 47 rfl h
theorem not0 {c : UInt8} (h : ¬ c = 0) : ¬ c.toNat = 0 ∧ ¬ (c.toNat : Int) = 0 := byte_not 0 rfl h
theorem not47 {c : UInt8} (h : ¬ c = 47) : ¬ c.toNat = 47 ∧ ¬ (c.toNat : Int) = 47 := byte_not 47 rfl h
set_option maxRecDepth 100000 in
set_option maxHeartbeats 1000000 in
theorem rright_any (l : List UInt8) (hl : l.length ≤ 281474976710656) (w : World) : Calls Tryz.prog 126 #[S l] w fun e w' => e = .returned (.bool (right l)) ∧ w' = w := by
  go_enter Tryz.func126, Tryz.ntmps126
  go_wp2_with fail
  go_loopw [3] (fun i wr => ∃ k : Nat, k ≤ l.length ∧ i = .int .i64 k ∧ (0 : UInt8) ∉ l.take k ∧ (47 : UInt8) ∉ l.take k ∧ wr = w) (fun i _ => l.length - (intOf i).toNat)
  case atStart => exact ⟨0, by omega, rfl, by simp, by simp, rfl⟩
  case round =>
    obtain ⟨k, hk, rfl, n0, n1, rfl⟩ := hrel
    by_cases hlt : k < l.length
    · have j0 : (0 : Int) ≤ (k : Int) := by omega
      have j1 : (k : Int) < (l.length : Int) := by omega
      have r0 : l[k] ∈ l := List.getElem_mem hlt
      have hkb : k < (bs l).size := hlt
      have t0 := take_mem hlt 0
      have t1 := take_mem hlt 47
      by_cases c0 : l[k] = 0
      · have hr : right l = false := by simp [right, show (0 : UInt8) ∈ l by rw [← c0]; exact r0]
        replace hr := hide hr
        obtain ⟨d1, d2⟩ := is0 (show (bs l)[k] = 0 from c0)
        clear t0 t1 n0 n1 r0
        go_wp2_with fail
        all_goals (go_ret; exact ⟨by rw [unhide hr]; rfl, rfl⟩)
      · obtain ⟨d1, d2⟩ := not0 (show ¬ (bs l)[k] = 0 from c0)
        by_cases c1 : l[k] = 47
        · have hr : right l = false := by simp [right, show (47 : UInt8) ∈ l by rw [← c1]; exact r0]
          replace hr := hide hr
          obtain ⟨d3, d4⟩ := is47 (show (bs l)[k] = 47 from c1)
          clear t0 t1 n0 n1 r0
          go_wp2_with fail
          all_goals (go_ret; exact ⟨by rw [unhide hr]; rfl, rfl⟩)
        · obtain ⟨d3, d4⟩ := not47 (show ¬ (bs l)[k] = 47 from c1)
          have m0 : Hid ((0 : UInt8) ∉ l.take (k + 1)) := hide (by rw [t0]; rintro (h | h); exact n0 h; exact c0 h.symm)
          have m1 : Hid ((47 : UInt8) ∉ l.take (k + 1)) := hide (by rw [t1]; rintro (h | h); exact n1 h; exact c1 h.symm)
          clear t0 t1 n0 n1 r0
          have d5 : (((bs l)[k].toNat : Int) == 0) = false := by simpa using d2
          have d6 : (((bs l)[k].toNat : Int) == 47) = false := by simpa using d4
          go_wp2_with fail
          exact ⟨⟨k + 1, by omega, rfl, unhide m0, unhide m1, trivial⟩, by simp [intOf]; omega⟩
    · obtain rfl : k = l.length := by omega
      rw [List.take_length] at n0 n1
      have j1 : ¬ ((l.length : Nat) : Int) < (l.length : Int) := by omega
      have hr : right l = (decide (1 ≤ (l.length : Int)) && decide ((l.length : Int) ≤ 255) && !dots l) := by
        unfold right
        cases l with
        | nil => simp
        | cons c r =>
          simp only [List.isEmpty_cons, Bool.false_or, n0, n1, decide_false, Bool.not_false, Bool.and_true, Bool.not_or, List.length_cons]
          congr 1
          have e1 : (1 : Int) ≤ ((r.length + 1 : Nat) : Int) := by omega
          simp only [e1, decide_true, Bool.true_and]
          by_cases h : r.length + 1 ≤ 255
          · have h2 : ((r.length + 1 : Nat) : Int) ≤ 255 := by omega
            have h3 : ¬ 255 < r.length + 1 := by omega
            simp only [h2, h3, decide_true, decide_false, Bool.not_false]
          · have h2 : ¬ ((r.length + 1 : Nat) : Int) ≤ 255 := by omega
            have h3 : 255 < r.length + 1 := by omega
            simp only [h2, h3, decide_true, decide_false, Bool.not_true]
      replace hr := hide hr
      clear n0 n1
      go_wp2_with (go_at_call 214; refine (rdots_any _ _).mono ?_; rintro e w' ⟨rfl, rfl⟩)
      all_goals (go_ret; refine ⟨?_, rfl⟩; rw [unhide hr]; simp_all; try (intros; omega))
end Go.Proofs.YtlngeaacjbdmhaaGreat.Nm

namespace Go.Proofs.YtlngeaacjbdmhaaGreat.Rf
open Go.RowKit Go.Maps
attribute [local go_sem ↓] Go.wp_at_zero Go.wp_at_succ
theorem r7_any (s : ByteArray) (hs : s.size ≤ 281474976710656) (w : World) : Calls Tryz.prog 126 #[.string s] w fun e w' => e = .returned (.bool (right s)) ∧ w' = w := Nm.rright_any s.data.toList hs w
def Ds (lo N : Nat) (W W' : World) (r : Nat) (T : Tr) (p : Nat) (Lv : Value) (nb : Int → Nat) (uv : Int → Int) : Prop := ∃ ev', DtI lo N W' r T p Lv nb ev' uv ∧ Rx lo W W'
section
variable {lo N : Nat} {W W' : World} {r : Nat} {T : Tr} {p : Nat} {Lv : Value} {nb : Int → Nat} {ev : Int → Value} {uv : Int → Int} {B : Nat}
theorem DtI.ds (h : DtI lo N W r T p Lv nb ev uv) : Ds lo N W W r T p Lv nb uv := ⟨ev, h, Rx.refl h.bd.2.1⟩
set_option maxRecDepth 100000 in
set_option maxHeartbeats 4000000 in
theorem dJoin_any (h : DtI lo N W r T p Lv nb ev uv) (hw : Wk B T) (hB : B ≤ 890) (dir n : Int) (s : ByteArray) (hd : (kl dir).wf = true) (hn : (kl n).wf = true) (hs : s.size ≤ 281474976710656) (h16 : ∀ y, T.nd n = some y → y.kind ≠ 1 → y.names ≤ 16) (hroot : ∀ y, T.nd 1 = some y → y.kind = 1) :
    Calls Tryz.prog 67 #[P0 r, I dir, .string s, I n] W fun e w' => e = .returned (I (T.joinE dir s n)) ∧ Ds lo N W w' r (T.join dir s n) p Lv nb uv := by
  have HR := hide h.ds
  have HQ := hide (r7_any s hs W)
  obtain ⟨vd, hvd⟩ : ∃ v, dirV T nb dir = v := ⟨_, rfl⟩
  obtain ⟨vn, hvn⟩ : ∃ v, atV T nb n = v := ⟨_, rfl⟩
  have HD := hide (dir_any h hw (by omega) dir hd vd hvd)
  have HA := hide (at_any h hw (by omega) n hn vn hvn)
  unfold Tr.join
  cases hx : T.dir dir with
  | none =>
    have e1 : T.joinE dir s n = 1 := by simp [Tr.joinE, hx]
    rw [e1, if_neg (by decide)]
    rw [dirV, hx] at hvd
    subst hvd
    clear h hw e1
    go_enter Tryz.func67, Tryz.ntmps67
    go_wp2_with (first
      | (go_at_call 81; refine (unhide HD).mono ?_; rintro e w1 ⟨rfl, hw1⟩; rw [hw1]; clear hw1)
      | (go_at_call 82; refine (unhide HA).mono ?_; rintro e w1 ⟨rfl, hw1⟩; rw [hw1]; clear hw1)
      | (go_at_call 126; refine (unhide HQ).mono ?_; rintro e w1 ⟨rfl, hw1⟩; rw [hw1]; clear hw1)
      | (go_at_call 127; refine (unhide HFi).mono ?_; rintro e w1 ⟨rfl, hw1⟩; rw [hw1]; clear hw1)
      | (go_at_call 128; refine (unhide HG).mono ?_; rintro e w1 ⟨rfl, hw1⟩; rw [hw1]; clear hw1)
      | (go_at_call 131; refine (unhide HP).mono ?_; rintro e w1 ⟨rfl, hO⟩))
    go_ret
    exact ⟨rfl, unhide HR⟩
  | some x =>
    rw [dirV, hx] at hvd
    subst hvd
    have hxn := (Tr.dir_some.1 hx).1
    have hxk := (Tr.dir_some.1 hx).2
    cases hy : T.nd n with
    | none =>
      have e1 : T.joinE dir s n = 1 := by simp [Tr.joinE, hx, hy]
      rw [e1, if_neg (by decide)]
      rw [atV, hy] at hvn
      subst hvn
      clear h hw e1
      go_enter Tryz.func67, Tryz.ntmps67
      go_wp2_with (first
        | (go_at_call 81; refine (unhide HD).mono ?_; rintro e w1 ⟨rfl, hw1⟩; rw [hw1]; clear hw1)
        | (go_at_call 82; refine (unhide HA).mono ?_; rintro e w1 ⟨rfl, hw1⟩; rw [hw1]; clear hw1)
        | (go_at_call 126; refine (unhide HQ).mono ?_; rintro e w1 ⟨rfl, hw1⟩; rw [hw1]; clear hw1)
        | (go_at_call 127; refine (unhide HFi).mono ?_; rintro e w1 ⟨rfl, hw1⟩; rw [hw1]; clear hw1)
        | (go_at_call 128; refine (unhide HG).mono ?_; rintro e w1 ⟨rfl, hw1⟩; rw [hw1]; clear hw1)
        | (go_at_call 131; refine (unhide HP).mono ?_; rintro e w1 ⟨rfl, hO⟩))
      go_ret
      exact ⟨rfl, unhide HR⟩
    | some y =>
      rw [atV, hy] at hvn
      subst hvn
      obtain ⟨-, c1, -, -, -, -, -, -, -, -, c10, -⟩ := dcells (h.hn n y hy).1
      cases hrs : right s with
      | false =>
        have e1 : T.joinE dir s n = 1 := by simp [Tr.joinE, hx, hy, hrs]
        rw [e1, if_neg (by decide)]
        rw [hrs] at HQ
        clear h hw e1
        go_enter Tryz.func67, Tryz.ntmps67
        go_wp2_with (first
          | (go_at_call 81; refine (unhide HD).mono ?_; rintro e w1 ⟨rfl, hw1⟩; rw [hw1]; clear hw1)
          | (go_at_call 82; refine (unhide HA).mono ?_; rintro e w1 ⟨rfl, hw1⟩; rw [hw1]; clear hw1)
          | (go_at_call 126; refine (unhide HQ).mono ?_; rintro e w1 ⟨rfl, hw1⟩; rw [hw1]; clear hw1)
          | (go_at_call 127; refine (unhide HFi).mono ?_; rintro e w1 ⟨rfl, hw1⟩; rw [hw1]; clear hw1)
          | (go_at_call 128; refine (unhide HG).mono ?_; rintro e w1 ⟨rfl, hw1⟩; rw [hw1]; clear hw1)
          | (go_at_call 131; refine (unhide HP).mono ?_; rintro e w1 ⟨rfl, hO⟩))
        go_ret
        exact ⟨rfl, unhide HR⟩
      | true =>
        rw [hrs] at HQ
        by_cases hk : y.kind = 1
        · have e1 : T.joinE dir s n = 1 := by simp [Tr.joinE, hx, hy, hrs, hk]
          rw [e1, if_neg (by decide)]
          rw [hk] at c1
          clear h hw e1
          go_enter Tryz.func67, Tryz.ntmps67
          go_wp2_with (first
            | (go_at_call 81; refine (unhide HD).mono ?_; rintro e w1 ⟨rfl, hw1⟩; rw [hw1]; clear hw1)
            | (go_at_call 82; refine (unhide HA).mono ?_; rintro e w1 ⟨rfl, hw1⟩; rw [hw1]; clear hw1)
            | (go_at_call 126; refine (unhide HQ).mono ?_; rintro e w1 ⟨rfl, hw1⟩; rw [hw1]; clear hw1)
            | (go_at_call 127; refine (unhide HFi).mono ?_; rintro e w1 ⟨rfl, hw1⟩; rw [hw1]; clear hw1)
            | (go_at_call 128; refine (unhide HG).mono ?_; rintro e w1 ⟨rfl, hw1⟩; rw [hw1]; clear hw1)
            | (go_at_call 131; refine (unhide HP).mono ?_; rintro e w1 ⟨rfl, hO⟩))
          go_ret
          exact ⟨rfl, unhide HR⟩
        · have hkb : (y.kind == 1) = false := by simpa using hk
          have hne : dir ≠ n := by
            rintro rfl
            rw [hxn] at hy
            cases hy
            exact hk hxk
          have hl := (hw.bnd dir x hxn).2.2
          cases hg : getE x.ins s with
          | some q =>
            have e1 : T.joinE dir s n = 35 := by simp [Tr.joinE, hx, hy, hrs, hk, refusesE, hg]
            rw [e1, if_neg (by decide)]
            have HFi := hide (find_any (h.hn dir x hxn).1 (h.hn dir x hxn).2 (hw.srt dir x hxn) (by omega) s (pos x.ins s : Int) (by rw [idx, hg]))
            generalize pos x.ins s = ps at *
            have g0 : (0 : Int) ≤ (ps : Int) := by omega
            clear h hw e1
            go_enter Tryz.func67, Tryz.ntmps67
            go_wp2_with (first
              | (go_at_call 81; refine (unhide HD).mono ?_; rintro e w1 ⟨rfl, hw1⟩; rw [hw1]; clear hw1)
              | (go_at_call 82; refine (unhide HA).mono ?_; rintro e w1 ⟨rfl, hw1⟩; rw [hw1]; clear hw1)
              | (go_at_call 126; refine (unhide HQ).mono ?_; rintro e w1 ⟨rfl, hw1⟩; rw [hw1]; clear hw1)
              | (go_at_call 127; refine (unhide HFi).mono ?_; rintro e w1 ⟨rfl, hw1⟩; rw [hw1]; clear hw1)
              | (go_at_call 128; refine (unhide HG).mono ?_; rintro e w1 ⟨rfl, hw1⟩; rw [hw1]; clear hw1)
              | (go_at_call 131; refine (unhide HP).mono ?_; rintro e w1 ⟨rfl, hO⟩))
            go_ret
            exact ⟨rfl, unhide HR⟩
          | none =>
            have HFi := hide (find_any (h.hn dir x hxn).1 (h.hn dir x hxn).2 (hw.srt dir x hxn) (by omega) s (-1) (by rw [idx, hg]))
            by_cases hnm : x.names = 0
            · have e1 : T.joinE dir s n = 32 := by simp [Tr.joinE, hx, hy, hrs, hk, refusesE, hg, hnm]
              rw [e1, if_neg (by decide)]
              have HG := hide (gone_any h hw (by omega) hd hxn true (by simp [hnm]))
              clear h hw e1
              go_enter Tryz.func67, Tryz.ntmps67
              go_wp2_with (first
                | (go_at_call 81; refine (unhide HD).mono ?_; rintro e w1 ⟨rfl, hw1⟩; rw [hw1]; clear hw1)
                | (go_at_call 82; refine (unhide HA).mono ?_; rintro e w1 ⟨rfl, hw1⟩; rw [hw1]; clear hw1)
                | (go_at_call 126; refine (unhide HQ).mono ?_; rintro e w1 ⟨rfl, hw1⟩; rw [hw1]; clear hw1)
                | (go_at_call 127; refine (unhide HFi).mono ?_; rintro e w1 ⟨rfl, hw1⟩; rw [hw1]; clear hw1)
                | (go_at_call 128; refine (unhide HG).mono ?_; rintro e w1 ⟨rfl, hw1⟩; rw [hw1]; clear hw1)
                | (go_at_call 131; refine (unhide HP).mono ?_; rintro e w1 ⟨rfl, hO⟩))
              go_ret
              exact ⟨rfl, unhide HR⟩
            · have HG := hide (gone_any h hw (by omega) hd hxn false (by simp [hnm]))
              have hq : nm1 n y = (y.names : Int) := by
                have : n ≠ 1 := fun e => hk (hroot y (by rw [← e]; exact hy))
                simp [nm1, this]
              rw [hq] at c10
              have hb16 := h16 y hy hk
              have hlk : T.links y = y.names := by simp [Tr.links, hk]
              by_cases hm : y.names = 16
              · have e1 : T.joinE dir s n = 44 := by simp [Tr.joinE, hx, hy, hrs, hk, refusesE, hg, hnm, hlk, hm]
                rw [e1, if_neg (by decide)]
                have c10' : W.cell? ⟨nb n, 10, none⟩ = some (I 16) := by rw [c10, hm]; rfl
                clear c10
                clear h hw e1
                go_enter Tryz.func67, Tryz.ntmps67
                go_wp2_with (first
                  | (go_at_call 81; refine (unhide HD).mono ?_; rintro e w1 ⟨rfl, hw1⟩; rw [hw1]; clear hw1)
                  | (go_at_call 82; refine (unhide HA).mono ?_; rintro e w1 ⟨rfl, hw1⟩; rw [hw1]; clear hw1)
                  | (go_at_call 126; refine (unhide HQ).mono ?_; rintro e w1 ⟨rfl, hw1⟩; rw [hw1]; clear hw1)
                  | (go_at_call 127; refine (unhide HFi).mono ?_; rintro e w1 ⟨rfl, hw1⟩; rw [hw1]; clear hw1)
                  | (go_at_call 128; refine (unhide HG).mono ?_; rintro e w1 ⟨rfl, hw1⟩; rw [hw1]; clear hw1)
                  | (go_at_call 131; refine (unhide HP).mono ?_; rintro e w1 ⟨rfl, hO⟩))
                go_ret
                exact ⟨rfl, unhide HR⟩
              · have e1 : T.joinE dir s n = 0 := by simp [Tr.joinE, hx, hy, hrs, hk, refusesE, hg, hnm, hlk, hm]
                rw [e1, if_pos rfl]
                have g16 : ¬ (16 : Int) ≤ (y.names : Int) := by omega
                have HP : Hid (Calls Tryz.prog 131 #[P0 r, I dir, .string s, I n] W fun e w' => e = .returned (.tuple #[]) ∧ Ds lo N W w' r (T.give dir s n) p Lv nb uv) := by
                  refine hide ((put_any h hw hB dir n s x y hxn hy hne hg hd).mono ?_)
                  rintro e w1 ⟨h1, ev', h2, R2⟩
                  refine ⟨h1, ev', ?_, R2⟩
                  simp only [if_neg hk] at h2
                  rw [uv_same] at h2
                  exact h2
                generalize (y.names : Int) = q at *
                clear h hw e1
                go_enter Tryz.func67, Tryz.ntmps67
                go_wp2_with (first
                  | (go_at_call 81; refine (unhide HD).mono ?_; rintro e w1 ⟨rfl, hw1⟩; rw [hw1]; clear hw1)
                  | (go_at_call 82; refine (unhide HA).mono ?_; rintro e w1 ⟨rfl, hw1⟩; rw [hw1]; clear hw1)
                  | (go_at_call 126; refine (unhide HQ).mono ?_; rintro e w1 ⟨rfl, hw1⟩; rw [hw1]; clear hw1)
                  | (go_at_call 127; refine (unhide HFi).mono ?_; rintro e w1 ⟨rfl, hw1⟩; rw [hw1]; clear hw1)
                  | (go_at_call 128; refine (unhide HG).mono ?_; rintro e w1 ⟨rfl, hw1⟩; rw [hw1]; clear hw1)
                  | (go_at_call 131; refine (unhide HP).mono ?_; rintro e w1 ⟨rfl, hO⟩))
                go_ret
                exact ⟨rfl, hO⟩
end
end Go.Proofs.YtlngeaacjbdmhaaGreat.Rf
