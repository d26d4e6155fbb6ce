/-
  The contract of Read at a text that is not refused as a whole: its parts, one by one.
-/
import Derived.Test.YtnhddendkolfeaaRead
namespace Go.Proofs.Ytnhddendkolfeaa
open Go.RowKit Go.Shelf
attribute [local go_sem] Oper.semAt_some

set_option maxRecDepth 100000 in
set_option maxHeartbeats 1000000 in
theorem read_yes (l : List UInt8) (w : World) (href : ref1 l = 0) :
    CallsIn Fence.wide 4 Try.prog 9 #[S l] w fun e w' => ∃ v, e = .returned (.tuple #[.agg #[.bool (rt l), .bool (sl l), v], .int .i64 (err l)]) ∧ w'.ownsRow w.heap.size 9 1 v (ps l).length (strs (ps l)) ∧ Below w.heap.size w w' := by
  have hro : Fence.wide.round = none := rfl
  have H := hide (refusal_any l)
  obtain ⟨hl0, hl1, hl2⟩ := ref_ok href
  rw [href] at H
  obtain ⟨i0, hi, hz0, hz1, hz2⟩ := info_parts info9
  have hs9 : (bs l).size ≤ 9223372036854775807 := by simp [ByteArray.size]; omega
  refine callsIn_of_wp_marks Try.func9 rfl trivial ?_ hro
  simp only [Try.ntmps9, List.size_toArray, List.length_cons, List.length_nil, Nat.reduceAdd, Nat.reduceSub, Array.replicate_succ, Array.replicate_zero, List.push_toArray, List.append_toArray, List.nil_append, List.cons_append]
  gi_wp2_with fail
  refine ⟨trivial, (callsIn_wide.2 (unhide H _)).mono ?_⟩
  rintro e w' ⟨rfl, rfl⟩
  gi_wp2_with fail
  refine ⟨trivial, (callsIn_wide.2 (Try.strings_HasPrefix _ _ _)).mono ?_⟩
  rintro e w' ⟨rfl, rfl⟩
  gi_wp2_with fail
  refine ⟨trivial, (callsIn_wide.2 (Try.strings_HasSuffix _ _ _ hs9)).mono ?_⟩
  rintro e w' ⟨rfl, rfl⟩
  generalize hpp : Lib.hasPrefix _ _ = pp
  generalize hss : Lib.hasSuffix _ _ = ss
  replace hpp := hide hpp
  replace hss := hide hss
  clear href H
  gi_wp2_with fail
  refine ⟨trivial, (callsIn_wide.2 (parts_any _ _)).mono ?_⟩
  rintro e w' ⟨rfl, rfl⟩
  gi_wp2_with fail
  obtain ⟨V, hV, hsz, g0, g1, g2, g3, hB⟩ := four0 w (.cells #[.bool false, .bool false, .slice none 0 0] 24) (.cells #[.int .i64 0] 25) (.cells #[.bool pp, .bool ss, .slice none 0 0] 24) (.cells #[S l] 9)
  rw [hV]
  clear hV
  generalize hh : w.heap.size = h at *
  have HH : Hid (w.heap.size = h) := hh
  simp only [Nat.add_assoc, Nat.reduceAdd]
  refine wpIn_range_ret hro (by omega) (gf := 35) (lb := #[.pointer (some ⟨h + 3, 0, none⟩)]) rfl trivial (enters_of Try.func35 (by kernel_rfl) rfl) ?_
  intro r hF hst hpe htm hps has hbo
  obtain ⟨L1, D1, hB2⟩ := setup V r
  rw [hsz] at L1 D1 ⊢
  have x1 := (hB2.block _ (by omega)).trans g3
  generalize ((V.alloc (.deferred (some []))).alloc (.loop r)) = W1 at L1 D1 hB2 x1 ⊢
  have J0 : RJ w W1 r h l pp ss l := ⟨L1, D1, hB.trans (hB2.mono (by omega)), (hB2.block _ (by omega)).trans g0, (hB2.block _ (by omega)).trans g1, .slice none 0 0, [], (hB2.block _ (by omega)).trans g2, rfl, by simp, World.ownsRow_nil _ _ _ _⟩
  clear L1 D1 hB2 g0 g1 g2 g3 hB
  refine (iter_go (h + 5) (h + 3) l W1 (fun rest W => RJ w W r h l pp ss rest) (fun W => RE w W h l) (by omega) J0 (by rw [cell_of x1]; rfl) (fun _ _ n J => J.drewN n) (fun _ _ J hb => J.skip hb) ?_).mono ?_
  · intro rest W2 J hrl hbn
    refine yield_ret hF hst hpe htm hps has hbo rfl J.lp ?_
    clear htm hps has hbo hst hpe J0 x1
    intro rb
    gi_wp2
    refine ⟨J.lp, ?_⟩
    have J4 := J.put rb
    have HP := hide (fun (W : World) (J : RJ w W rb h l pp ss (behind rest)) => J.put r)
    generalize W2.putObj (h + 5) (.loop rb) = W4 at *
    clear J
    obtain ⟨v, dn, o1, o2, o3, o4⟩ := J4.ow
    generalize hbf : before rest = q at *
    have hq : parts rest = q :: parts (behind rest) := by rw [parts_cut, hbf]; simp [piece, hbn]
    have z0 : W4.cell? ⟨h, 0, none⟩ = some (.bool false) := by rw [cell_of J4.k0]; rfl
    have z1 : W4.cell? ⟨h, 1, none⟩ = some (.bool false) := by rw [cell_of J4.k0]; rfl
    have z2 : W4.cell? ⟨h, 2, none⟩ = some (.slice none 0 0) := by rw [cell_of J4.k0]; rfl
    have zf0 : W4.frozen? ⟨h, 0, none⟩ = false := frozen_of J4.k0 0
    have zf1 : W4.frozen? ⟨h, 1, none⟩ = false := frozen_of J4.k0 1
    have zf2 : W4.frozen? ⟨h, 2, none⟩ = false := frozen_of J4.k0 2
    have y0 : W4.cell? ⟨h + 1, 0, none⟩ = some (.int .i64 0) := by rw [cell_of J4.k1]; rfl
    have yf : W4.frozen? ⟨h + 1, 0, none⟩ = false := frozen_of J4.k1 0
    by_cases hlong : 255 < q.length
    · have hl3 : (255 : Int) < (q.length : Int) := by omega
      have lp4 := J4.lp
      have HJ := hide J4
      have HQ := hide (⟨q, by rw [o2, hq]; simp, hlong⟩ : ∃ q ∈ parts l, 255 < q.length)
      clear J4 o1 o4 o2 o3 hq hlong hbf hbn hl0 hl1 hl2 hi hz0 hz1 hz2 hs9
      obtain ⟨X, hX⟩ : ∃ X, (((W4.setCell ⟨h, 0, none⟩ (.bool false)).setCell ⟨h, 1, none⟩ (.bool false)).setCell ⟨h, 2, none⟩ (.slice none 0 0)).setCell ⟨h + 1, 0, none⟩ (.int .i64 45) = X := ⟨_, rfl⟩
      refine wpIn_mono (Q := fun e _ w1 => e = .ret ∧ w1 = X) ?_ ?_
      · rw [← hX]
        clear hX lp4 HJ HQ HP hF hh hsz HH
        gi_wp2_with fail
      · rintro e a w1 ⟨rfl, rfl⟩
        have J4 := unhide HJ
        have kp : ∀ {k : Nat} {o : Obj}, W4.heap[k]? = some o → k ≠ h → k ≠ h + 1 → w1.heap[k]? = some o := fun h1 h2 h3 => by
          rw [← hX, Below.heap_setCell _ _ _ _ h3, Below.heap_setCell _ _ _ _ h2, Below.heap_setCell _ _ _ _ h2, Below.heap_setCell _ _ _ _ h2]; exact h1
        have q0 : w1.heap[h]? = some (.cells #[.bool false, .bool false, .slice none 0 0] 24) := by
          rw [← hX, Below.heap_setCell _ _ _ _ (by simp), heap_set (heap_set (heap_set J4.k0 0 _) 1 _) 2 _]; simp
        have q1 : w1.heap[h + 1]? = some (.cells #[.int .i64 45] 25) := by
          rw [← hX, heap_set (((Below.heap_setCell _ _ _ _ (by simp)).trans ((Below.heap_setCell _ _ _ _ (by simp)).trans ((Below.heap_setCell _ _ _ _ (by simp)).trans J4.k1)))) 0 _]; simp
        have lp := kp J4.lp (by omega) (by omega)
        have be : Below h w w1 := by
          rw [← hX]
          exact (((J4.be.setCell (p := ⟨h, 0, none⟩) (by simp) _).setCell (p := ⟨h, 1, none⟩) (by simp) _).setCell (p := ⟨h, 2, none⟩) (by simp) _).setCell (p := ⟨h + 1, 0, none⟩) (by simp) _
        exact ⟨lp, .inr ⟨rfl, .inr ⟨trivial, ⟨_, rfl, rfl, World.putObj_heap_same (lt_of_heap lp)⟩, put_other lp (kp J4.dd (by omega) (by omega)) (by simp), below_put be (by omega), put_other lp q0 (by simp), put_other lp q1 (by simp), unhide HQ⟩⟩⟩
    · have hl3 : ¬ (255 : Int) < (q.length : Int) := by omega
      obtain ⟨v, c0, MORE⟩ := J4.drew.more hq (by omega) hl1
      replace MORE := hide MORE
      obtain ⟨R, hR⟩ : ∃ R : World → Prop, R = fun w1 => w1.heap[h + 5]? = some (.loop rb) ∧ RJ w w1 rb h l pp ss (behind rest) := ⟨_, rfl⟩
      have HR : Hid (∀ w1 : World, w1.heap[h + 5]? = some (.loop rb) ∧ RJ w w1 rb h l pp ss (behind rest) → R w1) := hide (fun w1 h1 => by rw [hR]; exact h1)
      replace hR := hide hR
      have hqs : (bs q).size ≤ 281474976710656 := by simp [ByteArray.size]; omega
      refine wpIn_mono (Q := fun e _ w1 => e = .normal ∧ R w1) ?_ ?_
      · clear HP hF hh hsz HH J4 o1 o4 o2 o3 hq hlong hbf hbn hl0 hl1 hl2 hi hz0 hz1 hz2 hs9 z0 z1 z2 zf0 zf1 zf2 y0 yf
        gi_wp2_with fail
        refine wpIn_region_round (by kernel_rfl) (by kernel_rfl) ?_
        generalize W4.drew = X at *
        refine wpAnyIn_take (i := 0) (v := ?_) rfl rfl (by kernel_rfl) (by kernel_rfl) (by kernel_rfl) (fun _ _ _ h => h) ⟨Or.inl ⟨by rfl, ?hy⟩, fun _ => rfl⟩ ?_
        case hy => intro w; go_simp; all_goals with_reducible rfl
        refine wpAnyIn_take (i := 2) (v := ?_) rfl rfl (by kernel_rfl) (by kernel_rfl) (by kernel_rfl) (fun _ _ _ h => h) ⟨Or.inl ⟨by rfl, ?hy⟩, fun _ => rfl⟩ ?_
        case hy => intro w; go_simp; all_goals with_reducible rfl
        refine wpAnyIn_ready (rs := [1, 3]) (by kernel_rfl) (by simp) ?_
        refine AllReadyIn.cons rfl (fun K hK => ?_) ?_
        · go_simp
          refine hK _ _ ?_
          clear hK K
          refine wpAnyIn_ready (rs := [3]) (by kernel_rfl) (by simp) ?_
          refine AllReadyIn.cons rfl (fun K hK => ?_) ?_
          · go_simp
            refine ⟨trivial, (callsIn_wide.2 (clone_any _ _ hqs)).mono ?_⟩
            rintro e X2 ⟨rfl, hB⟩
            obtain ⟨cx, cy, sa, sm, sc, W6, hrun, d0, df, FIN⟩ := unhide MORE X2 hB
            replace FIN := hide (unhide HR _ FIN)
            clear hB
            refine hK _ _ ?_
            clear hK K
            refine wpAnyIn_ready (rs := [4]) (by kernel_rfl) (by simp) ?_
            refine AllReadyIn.cons rfl (fun K hK => ?_) ?_
            · go_simp
              refine hK _ _ ?_
              clear hK K
              refine wpAnyIn_ready (rs := [5]) (by kernel_rfl) (by simp) ?_
              refine AllReadyIn.cons rfl (fun K hK => ?_) ?_
              · refine stepIn_append_eq (by rfl) _ _ 22 (by rfl) 22 (by rfl) _ _ (by rfl) (by rfl) _ _ hrun ?_
                refine hK _ _ ?_
                clear hK K
                refine wpAnyIn_ready (rs := [6]) (by kernel_rfl) (by simp) ?_
                refine AllReadyIn.cons rfl (fun K hK => ?_) ?_
                · go_simp
                  refine hK _ _ ?_
                  clear hK K
                  refine wpAnyIn_ready (rs := [7]) (by kernel_rfl) (by simp) ?_
                  refine AllReadyIn.cons rfl (fun K hK => ?_) ?_
                  · go_simp
                    refine hK _ _ ?_
                    clear hK K
                    refine wpAnyIn_done (by kernel_rfl) ?_ _
                    gi_wp2_with fail
                    exact FIN
                  exact AllReadyIn.nil
                exact AllReadyIn.nil
              exact AllReadyIn.nil
            exact AllReadyIn.nil
          exact AllReadyIn.nil
        refine AllReadyIn.cons rfl (fun K hK => ?_) ?_
        · go_simp
          refine ⟨trivial, (callsIn_wide.2 (clone_any _ _ hqs)).mono ?_⟩
          rintro e X2 ⟨rfl, hB⟩
          obtain ⟨cx, cy, sa, sm, sc, W6, hrun, d0, df, FIN⟩ := unhide MORE X2 hB
          replace FIN := hide (unhide HR _ FIN)
          clear hB
          refine hK _ _ ?_
          clear hK K
          refine wpAnyIn_ready (rs := [1, 4]) (by kernel_rfl) (by simp) ?_
          refine AllReadyIn.cons rfl (fun K hK => ?_) ?_
          · go_simp
            refine hK _ _ ?_
            clear hK K
            refine wpAnyIn_ready (rs := [4]) (by kernel_rfl) (by simp) ?_
            refine AllReadyIn.cons rfl (fun K hK => ?_) ?_
            · go_simp
              refine hK _ _ ?_
              clear hK K
              refine wpAnyIn_ready (rs := [5]) (by kernel_rfl) (by simp) ?_
              refine AllReadyIn.cons rfl (fun K hK => ?_) ?_
              · refine stepIn_append_eq (by rfl) _ _ 22 (by rfl) 22 (by rfl) _ _ (by rfl) (by rfl) _ _ hrun ?_
                refine hK _ _ ?_
                clear hK K
                refine wpAnyIn_ready (rs := [6]) (by kernel_rfl) (by simp) ?_
                refine AllReadyIn.cons rfl (fun K hK => ?_) ?_
                · go_simp
                  refine hK _ _ ?_
                  clear hK K
                  refine wpAnyIn_ready (rs := [7]) (by kernel_rfl) (by simp) ?_
                  refine AllReadyIn.cons rfl (fun K hK => ?_) ?_
                  · go_simp
                    refine hK _ _ ?_
                    clear hK K
                    refine wpAnyIn_done (by kernel_rfl) ?_ _
                    gi_wp2_with fail
                    exact FIN
                  exact AllReadyIn.nil
                exact AllReadyIn.nil
              exact AllReadyIn.nil
            exact AllReadyIn.nil
          refine AllReadyIn.cons rfl (fun K hK => ?_) ?_
          · go_simp
            refine hK _ _ ?_
            clear hK K
            refine wpAnyIn_ready (rs := [1]) (by kernel_rfl) (by simp) ?_
            refine AllReadyIn.cons rfl (fun K hK => ?_) ?_
            · go_simp
              refine hK _ _ ?_
              clear hK K
              refine wpAnyIn_ready (rs := [5]) (by kernel_rfl) (by simp) ?_
              refine AllReadyIn.cons rfl (fun K hK => ?_) ?_
              · refine stepIn_append_eq (by rfl) _ _ 22 (by rfl) 22 (by rfl) _ _ (by rfl) (by rfl) _ _ hrun ?_
                refine hK _ _ ?_
                clear hK K
                refine wpAnyIn_ready (rs := [6]) (by kernel_rfl) (by simp) ?_
                refine AllReadyIn.cons rfl (fun K hK => ?_) ?_
                · go_simp
                  refine hK _ _ ?_
                  clear hK K
                  refine wpAnyIn_ready (rs := [7]) (by kernel_rfl) (by simp) ?_
                  refine AllReadyIn.cons rfl (fun K hK => ?_) ?_
                  · go_simp
                    refine hK _ _ ?_
                    clear hK K
                    refine wpAnyIn_done (by kernel_rfl) ?_ _
                    gi_wp2_with fail
                    exact FIN
                  exact AllReadyIn.nil
                exact AllReadyIn.nil
              exact AllReadyIn.nil
            exact AllReadyIn.nil
          exact AllReadyIn.nil
        exact AllReadyIn.nil

      · rintro e a w1 ⟨rfl, hr1⟩
        rw [unhide hR] at hr1
        exact ⟨hr1.1, .inl ⟨rfl, .inl ⟨trivial, unhide HP _ hr1.2⟩⟩⟩
  · rintro e W2 ⟨rfl, J | J⟩
    · refine ⟨⟨_, rfl⟩, .inl ⟨J.lp, ?_⟩⟩
      have J6 := J.put { r with state := .exhausted }
      generalize W2.putObj (h + 5) (.loop { r with state := .exhausted }) = W3 at *
      obtain ⟨v, dn, o1, o2, o3, o4⟩ := J6.ow
      rw [parts_nil, List.append_nil] at o2
      have z0 : W3.cell? ⟨h, 0, none⟩ = some (.bool false) := by rw [cell_of J6.k0]; rfl
      have z1 : W3.cell? ⟨h, 1, none⟩ = some (.bool false) := by rw [cell_of J6.k0]; rfl
      have z2 : W3.cell? ⟨h, 2, none⟩ = some (.slice none 0 0) := by rw [cell_of J6.k0]; rfl
      have zf0 : W3.frozen? ⟨h, 0, none⟩ = false := frozen_of J6.k0 0
      have zf1 : W3.frozen? ⟨h, 1, none⟩ = false := frozen_of J6.k0 1
      have zf2 : W3.frozen? ⟨h, 2, none⟩ = false := frozen_of J6.k0 2
      have y0 : W3.cell? ⟨h + 1, 0, none⟩ = some (.int .i64 0) := by rw [cell_of J6.k1]; rfl
      have yf : W3.frozen? ⟨h + 1, 0, none⟩ = false := frozen_of J6.k1 0
      have x0 : W3.cell? ⟨h + 2, 0, none⟩ = some (.bool pp) := by rw [cell_of o1]; rfl
      have x1 : W3.cell? ⟨h + 2, 1, none⟩ = some (.bool ss) := by rw [cell_of o1]; rfl
      have x2 : W3.cell? ⟨h + 2, 2, none⟩ = some v := by rw [cell_of o1]; rfl
      have hok : err l = 0 := err_of hl0 hl1 hl2 (by rw [o2]; exact o3)
      have hrt : rt l = pp := by rw [← unhide hpp]; simp [rt, hok, Lib.hasPrefix]
      have hsl : sl l = ss := by rw [← unhide hss]; simp [sl, hok, Lib.hasSuffix]
      have hps : ps l = dn := by simp [ps, hok, o2]
      have HN := hide (show _ ∧ _ ∧ _ ∧ _ from ⟨hok, hrt, hsl, hps⟩)
      have HJ := hide J6
      have HO := hide o4
      have HO1 := hide o1
      obtain ⟨va, vc, rfl⟩ := own_form o4
      clear J J6 o1 o2 o3 o4 hrt hsl hps hok J0 htm has hbo hst hpe hpp hss hl0 hl1 hl2 hi hz0 hz1 hz2 hs9 hF
      gi_wp2_with fail
      obtain ⟨X, hX⟩ : ∃ X, (((W3.setCell ⟨h, 0, none⟩ (.bool pp)).setCell ⟨h, 1, none⟩ (.bool ss)).setCell ⟨h, 2, none⟩ (.slice va dn.length vc)).setCell ⟨h + 1, 0, none⟩ (.int .i64 0) = X := ⟨_, rfl⟩
      rw [hX]
      have J6 := unhide HJ
      have kp : ∀ {k : Nat} {o : Obj}, W3.heap[k]? = some o → k ≠ h → k ≠ h + 1 → X.heap[k]? = some o := fun h1 h2 h3 => by
        rw [← hX, Below.heap_setCell _ _ _ _ h3, Below.heap_setCell _ _ _ _ h2, Below.heap_setCell _ _ _ _ h2, Below.heap_setCell _ _ _ _ h2]; exact h1
      have q0 : X.heap[h]? = some (.cells #[.bool pp, .bool ss, .slice va dn.length vc] 24) := by
        rw [← hX, Below.heap_setCell _ _ _ _ (by simp), heap_set (heap_set (heap_set J6.k0 0 _) 1 _) 2 _]; simp
      have q1 : X.heap[h + 1]? = some (.cells #[.int .i64 0] 25) := by
        rw [← hX, heap_set (((Below.heap_setCell _ _ _ _ (by simp)).trans ((Below.heap_setCell _ _ _ _ (by simp)).trans ((Below.heap_setCell _ _ _ _ (by simp)).trans J6.k1)))) 0 _]; simp
      have be : Below h w X := by
        rw [← hX]
        exact (((J6.be.setCell (p := ⟨h, 0, none⟩) (by simp) _).setCell (p := ⟨h, 1, none⟩) (by simp) _).setCell (p := ⟨h, 2, none⟩) (by simp) _).setCell (p := ⟨h + 1, 0, none⟩) (by simp) _
      have own7 : X.ownsRow h 9 1 (.slice va dn.length vc) dn.length (strs dn) := own_keep (unhide HO) fun k cur hc => (kp hc (by rintro rfl; rw [J6.k0] at hc; simp at hc) (by rintro rfl; rw [J6.k1] at hc; simp at hc)).trans hc.symm
      have dd5 := kp J6.dd (by omega) (by omega)
      refine ⟨by simp, .inl ⟨_, _, rfl, run_takeDeferred dd5, ?_⟩⟩
      have b7 := below_put (k := h + 4) (o := .deferred none) be (by omega)
      have p0 : (X.putObj (h + 4) (.deferred none)).heap[h]? = _ := (World.putObj_heap_other (by omega)).trans q0
      have p1 : (X.putObj (h + 4) (.deferred none)).heap[h + 1]? = _ := (World.putObj_heap_other (by omega)).trans q1
      have own8 : (X.putObj (h + 4) (.deferred none)).ownsRow h 9 1 (.slice va dn.length vc) dn.length (strs dn) := own_keep own7 fun k cur hc => World.putObj_heap_other (by rintro rfl; rw [dd5] at hc; simp at hc)
      have c0 : (X.putObj (h + 4) (.deferred none)).cell? ⟨h, 0, none⟩ = some (.bool pp) := by rw [cell_of p0]; rfl
      have c1 : (X.putObj (h + 4) (.deferred none)).cell? ⟨h, 1, none⟩ = some (.bool ss) := by rw [cell_of p0]; rfl
      have c2 : (X.putObj (h + 4) (.deferred none)).cell? ⟨h, 2, none⟩ = some (.slice va dn.length vc) := by rw [cell_of p0]; rfl
      have c3 : (X.putObj (h + 4) (.deferred none)).cell? ⟨h + 1, 0, none⟩ = some (.int .i64 0) := by rw [cell_of p1]; rfl
      obtain ⟨n0, n1, n2, n3⟩ := unhide HN
      rw [unhide HH, n0, n1, n2, n3]
      exact ⟨.tuple #[.agg #[.bool pp, .bool ss, .slice va dn.length vc], .int .i64 0], by simp [results, Try.results9, go_sem, c0, c1, c2, c3], _, rfl, own8, b7⟩
    · obtain ⟨rd, hd1, hd2, lp⟩ := J.lp
      refine ⟨⟨_, rfl⟩, .inr ⟨rd, hd1, hd2, lp, ?_⟩⟩
      have k0 := put_other (r' := { rd with state := .exhausted }) lp J.k0 (by simp)
      have k1 := put_other (r' := { rd with state := .exhausted }) lp J.k1 (by simp)
      have dd := put_other (r' := { rd with state := .exhausted }) lp J.dd (by simp)
      have be := below_put (k := h + 5) (o := .loop { rd with state := .exhausted }) J.be (by omega)
      have HE := hide J.er
      generalize W2.putObj (h + 5) (.loop { rd with state := .exhausted }) = W3 at *
      have HF := hide (show _ ∧ _ ∧ _ ∧ _ from ⟨k0, k1, dd, be⟩)
      clear J J0 k0 k1 dd be htm hps has hbo hst hpe lp hd1 hd2
      gi_wp2_with fail
      obtain ⟨k0, k1, dd, be⟩ := unhide HF
      refine ⟨by simp, .inl ⟨_, _, rfl, run_takeDeferred dd, ?_⟩⟩
      have q0 : (W3.putObj (h + 4) (.deferred none)).heap[h]? = _ := (World.putObj_heap_other (by omega)).trans k0
      have q1 : (W3.putObj (h + 4) (.deferred none)).heap[h + 1]? = _ := (World.putObj_heap_other (by omega)).trans k1
      have b7 := below_put (k := h + 4) (o := .deferred none) be (by omega)
      have c0 : (W3.putObj (h + 4) (.deferred none)).cell? ⟨h, 0, none⟩ = some (.bool false) := by rw [cell_of q0]; rfl
      have c1 : (W3.putObj (h + 4) (.deferred none)).cell? ⟨h, 1, none⟩ = some (.bool false) := by rw [cell_of q0]; rfl
      have c2 : (W3.putObj (h + 4) (.deferred none)).cell? ⟨h, 2, none⟩ = some (.slice none 0 0) := by rw [cell_of q0]; rfl
      have c3 : (W3.putObj (h + 4) (.deferred none)).cell? ⟨h + 1, 0, none⟩ = some (.int .i64 45) := by rw [cell_of q1]; rfl
      have he : err l = 45 := by
        obtain ⟨q, hq1, hq2⟩ := unhide HE
        unfold err
        rw [if_neg hl0, if_neg (by omega), if_neg hl2, if_pos]
        rw [List.any_eq_true]
        exact ⟨q, hq1, by simpa using hq2⟩
      have e1 : rt l = false := by simp [rt, he]
      have e2 : sl l = false := by simp [sl, he]
      have e3 : ps l = [] := by simp [ps, he]
      rw [unhide HH, e1, e2, e3, he]
      exact ⟨.tuple #[.agg #[.bool false, .bool false, .slice none 0 0], .int .i64 45], by simp [results, Try.results9, go_sem, c0, c1, c2, c3], .slice none 0 0, rfl, World.ownsRow_nil _ _ _ _, b7⟩
/-- Read, whatever the text. -/
theorem read_any (l : List UInt8) (w : World) :
    Calls Try.prog 9 #[S l] w fun e w' => ∃ v, e = .returned (.tuple #[.agg #[.bool (rt l), .bool (sl l), v], .int .i64 (err l)]) ∧ w'.ownsRow w.heap.size 9 1 v (ps l).length (strs (ps l)) ∧ Below w.heap.size w w' := by
  by_cases h : ref1 l = 0
  · exact callsIn_wide.1 (read_yes l w h)
  · refine (callsIn_wide.1 (read_no l w h)).mono ?_
    rintro e w' ⟨rfl, hB⟩
    have he := ref_err h
    have h1 : err l ≠ 0 := by rw [he]; exact h
    have e1 : rt l = false := by simp [rt, h1]
    have e2 : sl l = false := by simp [sl, h1]
    have e3 : ps l = [] := by simp [ps, h1]
    rw [e1, e2, e3, he]
    exact ⟨_, rfl, World.ownsRow_nil _ _ _ _, hB⟩
end Go.Proofs.Ytnhddendkolfeaa
