/-
  LruLen: the walk.
-/
import Derived.Test.YtjcjibjagjiedaaPure
import Derived.Test.YtjcjibjagjiedaaIn
namespace Go.Proofs.Ytjcjibjagjiedaa
open Go.RowKit
attribute [local go_sem ↓] Go.wp_at_zero Go.wp_at_succ

set_option maxRecDepth 100000 in
set_option maxHeartbeats 4000000 in
theorem len_walk (n : Int) (pa : Option Addr) (len cap : Nat) (w : World) (hK : StrsAt w pa len) :
    Calls Try.prog 7 #[.int .i64 n, .slice pa len cap] w fun e w' => e = .returned (.bool true) ∧ Below w.heap.size w w' := by
  obtain ⟨i9, hi9, hz0, hz1, hz2⟩ := info_parts info9
  have hmax := hK.1
  have K1 := hide (within_any n 9 w (by omega) (by omega))
  replace hK := hide hK
  go_enter Try.func7, Try.ntmps7
  go_wp2_with fail
  refine (unhide K1).mono ?_
  rintro e w1 ⟨⟨r, r0, r1, rfl⟩, rfl⟩
  obtain ⟨nn, hnn, n1, n2⟩ : ∃ nn : Int, nn = 1 + r ∧ 1 ≤ nn ∧ nn ≤ 10 := ⟨_, rfl, by omega, by omega⟩
  have K2 := hide (new_T nn (by omega) (by omega) w1)
  go_wp2_with fail
  rw [← hnn]
  replace hnn := hide hnn
  clear r0 r1
  refine (unhide K2).mono ?_
  rintro e w2 ⟨b, rfl, T2⟩
  replace T2 := hide T2
  clear K1 K2
  go_wp2_with fail
  go_loopw [7, 8] (fun o i wr => ∃ (k L : Nat) (l : List ByteArray) (a : Option Addr) (c : Nat), k ≤ 60 ∧ (L : Int) ≤ nn ∧ i = .int .i64 (k : Int) ∧ o = .slice a L c ∧ Hid (l.length = L) ∧ Hid l.Nodup ∧ Hid (Lt w1 wr b nn (zs l)) ∧ Hid (RowS wr a l)) (fun _ i _ => 60 - (intOf i).toNat)
  case atStart => exact ⟨0, 0, [], none, 0, by omega, by omega, rfl, rfl, hide rfl, hide (by simp), T2, hide (.inl rfl)⟩
  case round =>
    obtain ⟨k, L, l, a, c, hk, hLn, rfl, rfl, hL, hN, T, R⟩ := hrel
    clear T2
    by_cases hg : k < len ∧ k < 60
    · obtain ⟨g1, g2⟩ := hg
      have q1 : (k : Int) < (len : Int) := by omega
      have q2 : (k : Int) < 60 := by omega
      have q0 : (0 : Int) ≤ (k : Int) := by omega
      obtain ⟨bb, off, s, rfl, hbb, hc, hs2⟩ := (unhide hK).2 k g1
      have HC := hide (fun (W : World) (hW : Below w1.heap.size w1 W) => (cell_same (hW.block bb hbb) (off + k)).trans hc)
      have c0 := unhide HC wr (unhide T).be
      have hN2 := hide (nx_nodup (unhide hN) s)
      have hl2 := nx_len l s
      rw [unhide hL] at hl2
      have K := hide (use_T s (unhide T) (by rw [zs_len, unhide hL]; omega))
      clear hbb hc hs2
      by_cases hn : ((nx l s).length : Int) ≤ nn
      · rw [use_short (unhide hN) s hn] at K
        replace hn := hide hn
        go_wp2_with fail
        refine (unhide K).mono ?_
        rintro e w5 ⟨rfl, T5, F5⟩
        have RS := hide ((unhide R).fr (unhide T) F5)
        have HB5 := hide T5.be
        replace T5 := hide T5
        clear K F5 R T c0
        go_wp2_with fail
        obtain ⟨wo, hwo⟩ : ∃ wo : World, wo = w5 := ⟨_, rfl⟩
        replace hwo := hide hwo
        go_loopw [11, 12] (fun nv kv wr2 => ∃ (j M : Nat) (na : Option Addr) (nc : Nat), j ≤ L ∧ M ≤ j ∧ kv = .int .i64 (j : Int) ∧ nv = .slice na M nc ∧ Hid ((but (l.take j) s).length = M) ∧ Hid (wr2.ownsRow w5.heap.size 9 1 (.slice na M nc) M (strs (but (l.take j) s))) ∧ Hid (Below w5.heap.size w5 wr2)) (fun _ kv _ => L - (intOf kv).toNat)
        case atStart => exact ⟨0, 0, none, 0, by omega, by omega, rfl, rfl, hide rfl, hide (World.ownsRow_nil _ _ _ _), hide (Below.refl _ _)⟩
        case round =>
          obtain ⟨j, M, na, nc, hj, hMj, rfl, rfl, hM, hO, hB⟩ := hrel
          by_cases hjl : j < L
          · have j0 : (0 : Int) ≤ (j : Int) := by omega
            have j1 : (j : Int) < (L : Int) := by omega
            obtain ⟨x, hx⟩ : ∃ x, l[j]? = some x := ⟨_, List.getElem?_eq_getElem (by rw [unhide hL]; exact hjl)⟩
            obtain ⟨g, off2, ea, -, cx⟩ := ((unhide RS).below (unhide hB)).rowO j x hx
            subst ea
            have ck := unhide HC wr ((unhide HB5).trans ((unhide hB).mono (unhide HB5).size))
            by_cases he : x = s
            · have hq : but (l.take (j + 1)) s = but (l.take j) s := by rw [List.take_add_one, hx]; simp [but, he]
              replace hq := hide hq
              subst he
              clear hx
              go_wp2_with fail
              go_quiet (fail)
              go_wp2_with fail
              refine ⟨⟨j + 1, M, na, nc, by omega, by omega, rfl, rfl, hide (by rw [unhide hq]; exact unhide hM), hide (by rw [unhide hq]; exact own_keep (unhide hO) fun _ _ _ => rfl), hide (below_dn (unhide hB) _)⟩, by simp [intOf]; omega⟩
            · have hq : but (l.take (j + 1)) s = but (l.take j) s ++ [x] := by rw [List.take_add_one, hx]; simp [but, he]
              replace hq := hide hq
              have eb := str_ne he
              clear hx
              go_wp2_with fail
              go_quiet (fail)
              have cx2 : (wr.drewN nq).cell? ⟨g, off2 + j, none⟩ = some (.string x) := cx
              have hO2 : (wr.drewN nq).ownsRow w5.heap.size 9 1 (.slice na M nc) M (strs (but (l.take j) s)) := own_keep (unhide hO) fun _ _ _ => rfl
              have hB2 := below_dn (unhide hB) nq
              clear cx ck hO hB
              generalize wr.drewN nq = wx at *
              have hsz : w5.heap.size ≤ wx.heap.size := hB2.size
              have own2 := own_keep (W' := wx.alloc (.cells #[.string x] 9)) hO2 (fun k cur hc => Below.heap_alloc wx _ _ (lt_of_heap hc))
              have HO := hide own2
              have HB2 := hide hB2
              clear hO2 hB2
              have P1 := hide (cell_one_new wx (.string x) 9)
              have P2 : Hid (∀ u ∈ [Value.string x], u.oneCell' = true) := hide (by intro u hu; simp at hu; subst hu; rfl)
              have P3 : Hid (M + 1 ≤ maxLen) := hide (by unfold maxLen; omega)
              have P4 : Hid ((M + 1) * 16 ≤ 140737488355328) := hide (by omega)
              have P5 : Hid (w5.heap.size ≤ (wx.alloc (.cells #[.string x] 9)).heap.size) := hide (by simp; omega)
              go_wp2_with (first
                | (at_builtin; refine wpList_append_own_at _ rfl _ _ 30 rfl w5.heap.size 9 i9 (.string ByteArray.empty) 1 16 Try.underlying30 hi9 hz0 hz1 hz2 rfl (by decide) _ _ _ rfl own2 ⟨wx.heap.size, 0, none⟩ 1 1 [.string x] rfl rfl (unhide P1) (unhide P2) (unhide P3) (unhide P4) (unhide P5) ?_))
              intro v' w7 own7 hgr _ _
              obtain ⟨na', nc', rfl⟩ := own_form own7
              have hB7 : Below w5.heap.size w5 w7 := below_grown ((unhide HB2).alloc hsz _) (unhide HO) hgr (by simp; omega)
              have HB7 := hide hB7
              have HO7 := hide own7
              clear own7 hgr hB7 own2 HO
              go_wp2_with fail
              refine ⟨⟨j + 1, M + 1, na', nc', by omega, by omega, rfl, rfl, hide (by rw [unhide hq, List.length_append, unhide hM]; rfl), hide (by rw [unhide hq]; simpa [strs] using unhide HO7), HB7⟩, by simp [intOf]; omega⟩
          · have j1 : ¬ (j : Int) < (L : Int) := by omega
            obtain rfl : j = L := by omega
            have ht : l.take j = l := by rw [← unhide hL]; exact List.take_length
            rw [ht] at hM hO
            have ck := unhide HC wr ((unhide HB5).trans ((unhide hB).mono (unhide HB5).size))
            have hsz : w5.heap.size ≤ wr.heap.size := (unhide hB).size
            have own2 := own_keep (W' := wr.alloc (.cells #[.string s] 9)) (unhide hO) (fun k cur hc => Below.heap_alloc wr _ _ (lt_of_heap hc))
            have HO := hide own2
            clear hO
            have P1 := hide (cell_one_new wr (.string s) 9)
            have P2 : Hid (∀ u ∈ [Value.string s], u.oneCell' = true) := hide (by intro u hu; simp at hu; subst hu; rfl)
            have P3 : Hid (M + 1 ≤ maxLen) := hide (by unfold maxLen; omega)
            have P4 : Hid ((M + 1) * 16 ≤ 140737488355328) := hide (by omega)
            have P5 : Hid (w5.heap.size ≤ (wr.alloc (.cells #[.string s] 9)).heap.size) := hide (by simp; omega)
            go_wp2_with (first
              | (at_builtin; refine wpList_append_own_at _ rfl _ _ 30 rfl w5.heap.size 9 i9 (.string ByteArray.empty) 1 16 Try.underlying30 hi9 hz0 hz1 hz2 rfl (by decide) _ _ _ rfl own2 ⟨wr.heap.size, 0, none⟩ 1 1 [.string s] rfl rfl (unhide P1) (unhide P2) (unhide P3) (unhide P4) (unhide P5) ?_))
            intro v' w8 own8 hgr _ _
            obtain ⟨oa, oc, rfl⟩ := own_form own8
            have hB8 : Below w5.heap.size w5 w8 := below_grown ((unhide hB).alloc hsz _) (unhide HO) hgr (by simp; omega)
            have T8 := hide ((unhide T5).below hB8)
            have own9 : w8.ownsRow w5.heap.size 9 1 (.slice oa (M + 1) oc) (M + 1) (strs (nx l s)) := by simpa [nx, strs] using own8
            have hMn : (nx l s).length = M + 1 := by rw [nx, List.length_append, unhide hM]; rfl
            have RS8 := hide (RowS.of_own own9)
            have HO9 := hide own9
            replace hMn := hide hMn
            clear own8 hgr hB8 own2 HO own9 ck hB RS T5 hM
            have q3 : (nn < ((M + 1 : Nat) : Int)) = False := by have := unhide hn; rw [← unhide hMn]; simp; omega
            have q4 : (nn < (M : Int) + 1) = False := by rw [← q3]; norm_cast
            clear HO9
            go_wp2_with fail
            exact ⟨⟨k + 1, M + 1, nx l s, oa, oc, by omega, by rw [← unhide hMn]; exact unhide hn, rfl, rfl, hMn, hN2, T8, RS8⟩, by simp [intOf]; omega⟩
      · obtain ⟨y, t, hyt, hu⟩ := use_long (unhide hN) s n1 hn
        rw [hu] at K
        replace hyt := hide hyt
        replace hn := hide hn
        go_wp2_with fail
        refine (unhide K).mono ?_
        rintro e w5 ⟨rfl, T5, F5⟩
        have RS := hide ((unhide R).fr (unhide T) F5)
        have HB5 := hide T5.be
        replace T5 := hide T5
        clear K F5 R T c0 hu
        go_wp2_with fail
        obtain ⟨wo, hwo⟩ : ∃ wo : World, wo = w5 := ⟨_, rfl⟩
        replace hwo := hide hwo
        go_loopw [11, 12] (fun nv kv wr2 => ∃ (j M : Nat) (na : Option Addr) (nc : Nat), j ≤ L ∧ M ≤ j ∧ kv = .int .i64 (j : Int) ∧ nv = .slice na M nc ∧ Hid ((but (l.take j) s).length = M) ∧ Hid (wr2.ownsRow w5.heap.size 9 1 (.slice na M nc) M (strs (but (l.take j) s))) ∧ Hid (Below w5.heap.size w5 wr2)) (fun _ kv _ => L - (intOf kv).toNat)
        case atStart => exact ⟨0, 0, none, 0, by omega, by omega, rfl, rfl, hide rfl, hide (World.ownsRow_nil _ _ _ _), hide (Below.refl _ _)⟩
        case round =>
          obtain ⟨j, M, na, nc, hj, hMj, rfl, rfl, hM, hO, hB⟩ := hrel
          by_cases hjl : j < L
          · have j0 : (0 : Int) ≤ (j : Int) := by omega
            have j1 : (j : Int) < (L : Int) := by omega
            obtain ⟨x, hx⟩ : ∃ x, l[j]? = some x := ⟨_, List.getElem?_eq_getElem (by rw [unhide hL]; exact hjl)⟩
            obtain ⟨g, off2, ea, -, cx⟩ := ((unhide RS).below (unhide hB)).rowO j x hx
            subst ea
            have ck := unhide HC wr ((unhide HB5).trans ((unhide hB).mono (unhide HB5).size))
            by_cases he : x = s
            · have hq : but (l.take (j + 1)) s = but (l.take j) s := by rw [List.take_add_one, hx]; simp [but, he]
              replace hq := hide hq
              subst he
              clear hx
              go_wp2_with fail
              go_quiet (fail)
              go_wp2_with fail
              refine ⟨⟨j + 1, M, na, nc, by omega, by omega, rfl, rfl, hide (by rw [unhide hq]; exact unhide hM), hide (by rw [unhide hq]; exact own_keep (unhide hO) fun _ _ _ => rfl), hide (below_dn (unhide hB) _)⟩, by simp [intOf]; omega⟩
            · have hq : but (l.take (j + 1)) s = but (l.take j) s ++ [x] := by rw [List.take_add_one, hx]; simp [but, he]
              replace hq := hide hq
              have eb := str_ne he
              clear hx
              go_wp2_with fail
              go_quiet (fail)
              have cx2 : (wr.drewN nq).cell? ⟨g, off2 + j, none⟩ = some (.string x) := cx
              have hO2 : (wr.drewN nq).ownsRow w5.heap.size 9 1 (.slice na M nc) M (strs (but (l.take j) s)) := own_keep (unhide hO) fun _ _ _ => rfl
              have hB2 := below_dn (unhide hB) nq
              clear cx ck hO hB
              generalize wr.drewN nq = wx at *
              have hsz : w5.heap.size ≤ wx.heap.size := hB2.size
              have own2 := own_keep (W' := wx.alloc (.cells #[.string x] 9)) hO2 (fun k cur hc => Below.heap_alloc wx _ _ (lt_of_heap hc))
              have HO := hide own2
              have HB2 := hide hB2
              clear hO2 hB2
              have P1 := hide (cell_one_new wx (.string x) 9)
              have P2 : Hid (∀ u ∈ [Value.string x], u.oneCell' = true) := hide (by intro u hu; simp at hu; subst hu; rfl)
              have P3 : Hid (M + 1 ≤ maxLen) := hide (by unfold maxLen; omega)
              have P4 : Hid ((M + 1) * 16 ≤ 140737488355328) := hide (by omega)
              have P5 : Hid (w5.heap.size ≤ (wx.alloc (.cells #[.string x] 9)).heap.size) := hide (by simp; omega)
              go_wp2_with (first
                | (at_builtin; refine wpList_append_own_at _ rfl _ _ 30 rfl w5.heap.size 9 i9 (.string ByteArray.empty) 1 16 Try.underlying30 hi9 hz0 hz1 hz2 rfl (by decide) _ _ _ rfl own2 ⟨wx.heap.size, 0, none⟩ 1 1 [.string x] rfl rfl (unhide P1) (unhide P2) (unhide P3) (unhide P4) (unhide P5) ?_))
              intro v' w7 own7 hgr _ _
              obtain ⟨na', nc', rfl⟩ := own_form own7
              have hB7 : Below w5.heap.size w5 w7 := below_grown ((unhide HB2).alloc hsz _) (unhide HO) hgr (by simp; omega)
              have HB7 := hide hB7
              have HO7 := hide own7
              clear own7 hgr hB7 own2 HO
              go_wp2_with fail
              refine ⟨⟨j + 1, M + 1, na', nc', by omega, by omega, rfl, rfl, hide (by rw [unhide hq, List.length_append, unhide hM]; rfl), hide (by rw [unhide hq]; simpa [strs] using unhide HO7), HB7⟩, by simp [intOf]; omega⟩
          · have j1 : ¬ (j : Int) < (L : Int) := by omega
            obtain rfl : j = L := by omega
            have ht : l.take j = l := by rw [← unhide hL]; exact List.take_length
            rw [ht] at hM hO
            have ck := unhide HC wr ((unhide HB5).trans ((unhide hB).mono (unhide HB5).size))
            have hsz : w5.heap.size ≤ wr.heap.size := (unhide hB).size
            have own2 := own_keep (W' := wr.alloc (.cells #[.string s] 9)) (unhide hO) (fun k cur hc => Below.heap_alloc wr _ _ (lt_of_heap hc))
            have HO := hide own2
            clear hO
            have P1 := hide (cell_one_new wr (.string s) 9)
            have P2 : Hid (∀ u ∈ [Value.string s], u.oneCell' = true) := hide (by intro u hu; simp at hu; subst hu; rfl)
            have P3 : Hid (M + 1 ≤ maxLen) := hide (by unfold maxLen; omega)
            have P4 : Hid ((M + 1) * 16 ≤ 140737488355328) := hide (by omega)
            have P5 : Hid (w5.heap.size ≤ (wr.alloc (.cells #[.string s] 9)).heap.size) := hide (by simp; omega)
            go_wp2_with (first
              | (at_builtin; refine wpList_append_own_at _ rfl _ _ 30 rfl w5.heap.size 9 i9 (.string ByteArray.empty) 1 16 Try.underlying30 hi9 hz0 hz1 hz2 rfl (by decide) _ _ _ rfl own2 ⟨wr.heap.size, 0, none⟩ 1 1 [.string s] rfl rfl (unhide P1) (unhide P2) (unhide P3) (unhide P4) (unhide P5) ?_))
            intro v' w8 own8 hgr _ _
            obtain ⟨oa, oc, rfl⟩ := own_form own8
            have hB8 : Below w5.heap.size w5 w8 := below_grown ((unhide hB).alloc hsz _) (unhide HO) hgr (by simp; omega)
            have T8 := hide ((unhide T5).below hB8)
            have own9 : w8.ownsRow w5.heap.size 9 1 (.slice oa (M + 1) oc) (M + 1) (strs (nx l s)) := by simpa [nx, strs] using own8
            have hMn : (nx l s).length = M + 1 := by rw [nx, List.length_append, unhide hM]; rfl
            have RS8 := hide (RowS.of_own own9)
            have HO9 := hide own9
            replace hMn := hide hMn
            clear own8 hgr hB8 own2 HO own9 ck hB RS T5 hM
            have hMn2 := unhide hMn
            rw [(unhide hyt)] at hMn2
            simp only [List.length_cons] at hMn2
            have q3 : nn < ((M + 1 : Nat) : Int) := by have := unhide hn; rw [← unhide hMn]; omega
            have q4 : nn < (M : Int) + 1 := by omega
            have q5 : (0 : Int) < (M : Int) + 1 := by omega
            obtain ⟨g, o3, cur, e3, hg3, hg4, hg5⟩ : ∃ g cap cur, oa = some ⟨g, 0, none⟩ ∧ w8.cell? ⟨g, 0, none⟩ = some (.string y) ∧ M + 1 ≤ oc ∧ (cap = oc ∧ cur = oc) := by
              obtain ⟨g, cap', cur, e1, _, hg, h1, h2, h3, hx⟩ := own_open (unhide HO9) (by omega)
              simp only [Value.slice.injEq] at e1
              obtain ⟨rfl, -, rfl⟩ := e1
              exact ⟨g, oc, oc, rfl, hx 0 _ (by rw [(unhide hyt)]; rfl), h1, rfl, rfl⟩
            subst e3
            obtain ⟨g', off', e4, htl⟩ := (show RowS w8 (some ⟨g, 0, none⟩) (y :: t) by rw [← (unhide hyt)]; exact unhide RS8).tail
            simp only [Option.some.injEq, Addr.mk.injEq, and_true] at e4
            obtain ⟨rfl, rfl⟩ := e4
            have RT := hide (show RowS w8 (some ⟨g, 0 + 1, none⟩) t from htl (by rintro rfl; simp at hMn2; omega))
            have hN3 := hide (show t.Nodup by have := unhide hN2; rw [(unhide hyt)] at this; exact (List.nodup_cons.1 this).2)
            have q6 : ¬ oc = 1 := by omega
            have q7 : (1 : Int) ≤ (M : Int) + 1 := by omega
            have q8 : 1 ≤ oc := by omega
            clear HO9 RS8 htl hg5
            go_wp2_with fail
            exact ⟨⟨k + 1, M, t, _, _, by omega, by omega, rfl, rfl, hide (by omega), hN3, T8, RT⟩, by simp [intOf]; omega⟩
    · have q : (k : Int) < (len : Int) → ¬ (k : Int) < 60 := fun h1 h2 => hg ⟨by omega, by omega⟩
      have HX : (¬ (k : Int) < (len : Int)) ∨ ((k : Int) < (len : Int) ∧ ¬ (k : Int) < 60) := by
        by_cases h1 : (k : Int) < (len : Int)
        · exact .inr ⟨h1, q h1⟩
        · exact .inl h1
      clear q hg
      have K := hide (len_T (unhide T))
      rw [zs_len, unhide hL] at K
      have KO := hide (oldest_T nn (unhide T) (by rw [zs_len, unhide hL]; omega))
      rw [olds_zs (by rw [unhide hL]; exact hLn), unhide hL] at KO
      rcases HX with q | ⟨q1, q2⟩
      · go_wp2_with fail
        refine (unhide K).mono ?_
        rintro e w3 ⟨rfl, rfl⟩
        go_wp2_with fail
        refine (unhide KO).mono ?_
        rintro e w4 ⟨ga, gc, rfl, own4, T4, B4⟩
        have KS := hide (same_yes ga a gc c L l (unhide hL) (by omega) w4 (RowO.of_own own4) ((unhide R).below B4).rowO)
        replace T4 := hide T4
        clear own4 B4 K KO T R
        go_wp2_with fail
        refine (unhide KS).mono ?_
        rintro e w5 ⟨rfl, B5⟩
        have T5 := hide ((unhide T4).below B5)
        have KK := hide (known_any w5)
        clear KS B5 T4
        go_wp2_with fail
        refine (unhide KK).mono ?_
        rintro e w6 ⟨rfl, B6⟩
        replace B6 := hide B6
        go_wp2_with fail
        go_ret
        exact ⟨rfl, ((unhide T5).below (unhide B6)).be⟩
      · go_wp2_with fail
        refine (unhide K).mono ?_
        rintro e w3 ⟨rfl, rfl⟩
        go_wp2_with fail
        refine (unhide KO).mono ?_
        rintro e w4 ⟨ga, gc, rfl, own4, T4, B4⟩
        have KS := hide (same_yes ga a gc c L l (unhide hL) (by omega) w4 (RowO.of_own own4) ((unhide R).below B4).rowO)
        replace T4 := hide T4
        clear own4 B4 K KO T R
        go_wp2_with fail
        refine (unhide KS).mono ?_
        rintro e w5 ⟨rfl, B5⟩
        have T5 := hide ((unhide T4).below B5)
        have KK := hide (known_any w5)
        clear KS B5 T4
        go_wp2_with fail
        refine (unhide KK).mono ?_
        rintro e w6 ⟨rfl, B6⟩
        replace B6 := hide B6
        go_wp2_with fail
        go_ret
        exact ⟨rfl, ((unhide T5).below (unhide B6)).be⟩
end Go.Proofs.Ytjcjibjagjiedaa
