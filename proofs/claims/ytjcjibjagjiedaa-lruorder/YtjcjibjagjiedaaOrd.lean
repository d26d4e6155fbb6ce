/-
  LruOrder: the walk.
-/
import Derived.Test.YtjcjibjagjiedaaOrdA
namespace Go.Proofs.Ytjcjibjagjiedaa
open Go.RowKit
attribute [local go_sem ↓] Go.wp_at_zero Go.wp_at_succ

theorem ne_symm {u v : Value} (h : ∀ k, u.ownBlock = some k → v.ownBlock ≠ some k) : ∀ k, v.ownBlock = some k → u.ownBlock ≠ some k := fun k h1 h2 => h k h2 h1
set_option maxRecDepth 100000 in
set_option maxHeartbeats 8000000 in
theorem order_walk (pa : Option Addr) (len cap : Nat) (pd : Option Addr) (lend capd : Nat) (n : Int) (w : World) (hK : StrsAt w pa len) (hD : BoolsAt w pd lend) :
    Calls Try.prog 5 #[.slice pa len cap, .slice pd lend capd, .int .i64 n] w fun e w' => e = .returned (.bool true) ∧ Below w.heap.size w w' := by
  obtain ⟨i9, hi9, hz0, hz1, hz2⟩ := info_parts info9
  obtain ⟨f, hf⟩ := hD.fn
  have hmax := hK.1
  have hmaxd := hD.1
  have K2 := hide (new_T 64 (by omega) (by omega) w)
  replace hK := hide hK
  replace hf := hide hf
  clear hD
  go_enter Try.func5, Try.ntmps5
  go_wp2_with fail
  refine (unhide K2).mono ?_
  rintro e w2 ⟨b, rfl, T2⟩
  replace T2 := hide T2
  clear K2
  go_wp2_with fail
  go_loopw [9, 10] (fun o i wr => ∃ (k L : Nat) (l : List ByteArray) (a : Option Addr) (c : Nat), k ≤ 50 ∧ L ≤ k ∧ i = .int .i64 (k : Int) ∧ o = .slice a L c ∧ Hid (l.length = L) ∧ Hid l.Nodup ∧ Hid (Lt w wr b 64 (zs l)) ∧ Hid (RowS wr a l)) (fun _ i _ => 50 - (intOf i).toNat)
  case atStart => exact ⟨0, 0, [], none, 0, by omega, by omega, rfl, rfl, hide rfl, hide (by simp), T2, hide (.inl rfl)⟩
  case round =>
    obtain ⟨k, L, l, a, c, hk, hLk, rfl, rfl, hL, hN, T, R⟩ := hrel
    clear T2
    by_cases hg : k < len ∧ k < 50
    · obtain ⟨g1, g2⟩ := hg
      have q1 : (k : Int) < (len : Int) := by omega
      have q2 : (k : Int) < 50 := by omega
      have q0 : (0 : Int) ≤ (k : Int) := by omega
      obtain ⟨bb, off, s, rfl, hbb, hc, hs2⟩ := (unhide hK).2 k g1
      have HC := hide (fun (W : World) (hW : Below w.heap.size w W) => (cell_same (hW.block bb hbb) (off + k)).trans hc)
      have c0 := unhide HC wr (unhide T).be
      have hN2 := hide (nx_nodup (unhide hN) s)
      have hl2 := nx_len l s
      rw [unhide hL] at hl2
      replace hl2 := hide hl2
      have K := hide (use_T s (unhide T) (by rw [zs_len, unhide hL]; omega))
      rw [use_short (unhide hN) s (by have := unhide hl2; omega)] at K
      clear hbb hc hs2
      go_wp2_with fail
      refine (unhide K).mono ?_
      rintro e w5 ⟨rfl, T5, F5⟩
      have RS := hide ((unhide R).fr (unhide T) F5)
      have HB5 := hide T5.be
      replace T5 := hide T5
      clear K F5 R T c0
      go_wp2_with fail
      obtain ⟨wo, hwo⟩ : ∃ wo : World, wo = w5 := ⟨_, rfl⟩
      replace hwo := hide hwo
      go_loopw [11, 12] (fun nv kv wr2 => ∃ (j M : Nat) (na : Option Addr) (nc : Nat), j ≤ L ∧ M ≤ j ∧ kv = .int .i64 (j : Int) ∧ nv = .slice na M nc ∧ Hid ((but (l.take j) s).length = M) ∧ Hid (wr2.ownsRow w5.heap.size 9 1 (.slice na M nc) M (strs (but (l.take j) s))) ∧ Hid (Below w5.heap.size w5 wr2)) (fun _ kv _ => L - (intOf kv).toNat)
      case atStart => exact ⟨0, 0, none, 0, by omega, by omega, rfl, rfl, hide rfl, hide (World.ownsRow_nil _ _ _ _), hide (Below.refl _ _)⟩
      case round =>
        obtain ⟨j, M, na, nc, hj, hMj, rfl, rfl, hM, hO, hB⟩ := hrel
        by_cases hjl : j < L
        · have j0 : (0 : Int) ≤ (j : Int) := by omega
          have j1 : (j : Int) < (L : Int) := by omega
          obtain ⟨x, hx⟩ : ∃ x, l[j]? = some x := ⟨_, List.getElem?_eq_getElem (by rw [unhide hL]; exact hjl)⟩
          obtain ⟨g, off2, ea, -, cx⟩ := ((unhide RS).below (unhide hB)).rowO j x hx
          subst ea
          have ck := unhide HC wr ((unhide HB5).trans ((unhide hB).mono (unhide HB5).size))
          by_cases he : x = s
          · have hq : but (l.take (j + 1)) s = but (l.take j) s := by rw [List.take_add_one, hx]; simp [but, he]
            replace hq := hide hq
            subst he
            clear hx
            go_wp2_with fail
            go_quiet (fail)
            go_wp2_with fail
            refine ⟨⟨j + 1, M, na, nc, by omega, by omega, rfl, rfl, hide (by rw [unhide hq]; exact unhide hM), hide (by rw [unhide hq]; exact own_keep (unhide hO) fun _ _ _ => rfl), hide (below_dn (unhide hB) _)⟩, by simp [intOf]; omega⟩
          · have hq : but (l.take (j + 1)) s = but (l.take j) s ++ [x] := by rw [List.take_add_one, hx]; simp [but, he]
            replace hq := hide hq
            have eb := str_ne he
            clear hx
            go_wp2_with fail
            go_quiet (fail)
            have cx2 : (wr.drewN nq).cell? ⟨g, off2 + j, none⟩ = some (.string x) := cx
            have hO2 : (wr.drewN nq).ownsRow w5.heap.size 9 1 (.slice na M nc) M (strs (but (l.take j) s)) := own_keep (unhide hO) fun _ _ _ => rfl
            have hB2 := below_dn (unhide hB) nq
            clear cx ck hO hB
            generalize wr.drewN nq = wx at *
            have hsz : w5.heap.size ≤ wx.heap.size := hB2.size
            have own2 := own_keep (W' := wx.alloc (.cells #[.string x] 9)) hO2 (fun k cur hc => Below.heap_alloc wx _ _ (lt_of_heap hc))
            have HO := hide own2
            have HB2 := hide hB2
            clear hO2 hB2
            have P1 := hide (cell_one_new wx (.string x) 9)
            have P2 : Hid (∀ u ∈ [Value.string x], u.oneCell' = true) := hide (by intro u hu; simp at hu; subst hu; rfl)
            have P3 : Hid (M + 1 ≤ maxLen) := hide (by unfold maxLen; omega)
            have P4 : Hid ((M + 1) * 16 ≤ 140737488355328) := hide (by omega)
            have P5 : Hid (w5.heap.size ≤ (wx.alloc (.cells #[.string x] 9)).heap.size) := hide (by simp; omega)
            go_wp2_with (first
              | (at_builtin; refine wpList_append_own_at _ rfl _ _ 30 rfl w5.heap.size 9 i9 (.string ByteArray.empty) 1 16 Try.underlying30 hi9 hz0 hz1 hz2 rfl (by decide) _ _ _ rfl own2 ⟨wx.heap.size, 0, none⟩ 1 1 [.string x] rfl rfl (unhide P1) (unhide P2) (unhide P3) (unhide P4) (unhide P5) ?_))
            intro v' w7 own7 hgr _ _
            obtain ⟨na', nc', rfl⟩ := own_form own7
            have hB7 : Below w5.heap.size w5 w7 := below_grown ((unhide HB2).alloc hsz _) (unhide HO) hgr (by simp; omega)
            have HB7 := hide hB7
            have HO7 := hide own7
            clear own7 hgr hB7 own2 HO
            go_wp2_with fail
            refine ⟨⟨j + 1, M + 1, na', nc', by omega, by omega, rfl, rfl, hide (by rw [unhide hq, List.length_append, unhide hM]; rfl), hide (by rw [unhide hq]; simpa [strs] using unhide HO7), HB7⟩, by simp [intOf]; omega⟩
        · have j1 : ¬ (j : Int) < (L : Int) := by omega
          obtain rfl : j = L := by omega
          have ht : l.take j = l := by rw [← unhide hL]; exact List.take_length
          rw [ht] at hM hO
          have ck := unhide HC wr ((unhide HB5).trans ((unhide hB).mono (unhide HB5).size))
          have hsz : w5.heap.size ≤ wr.heap.size := (unhide hB).size
          have own2 := own_keep (W' := wr.alloc (.cells #[.string s] 9)) (unhide hO) (fun k cur hc => Below.heap_alloc wr _ _ (lt_of_heap hc))
          have HO := hide own2
          clear hO
          have P1 := hide (cell_one_new wr (.string s) 9)
          have P2 : Hid (∀ u ∈ [Value.string s], u.oneCell' = true) := hide (by intro u hu; simp at hu; subst hu; rfl)
          have P3 : Hid (M + 1 ≤ maxLen) := hide (by unfold maxLen; omega)
          have P4 : Hid ((M + 1) * 16 ≤ 140737488355328) := hide (by omega)
          have P5 : Hid (w5.heap.size ≤ (wr.alloc (.cells #[.string s] 9)).heap.size) := hide (by simp; omega)
          go_wp2_with (first
            | (at_builtin; refine wpList_append_own_at _ rfl _ _ 30 rfl w5.heap.size 9 i9 (.string ByteArray.empty) 1 16 Try.underlying30 hi9 hz0 hz1 hz2 rfl (by decide) _ _ _ rfl own2 ⟨wr.heap.size, 0, none⟩ 1 1 [.string s] rfl rfl (unhide P1) (unhide P2) (unhide P3) (unhide P4) (unhide P5) ?_))
          intro v' w8 own8 hgr _ _
          obtain ⟨oa, oc, rfl⟩ := own_form own8
          have hB8 : Below w5.heap.size w5 w8 := below_grown ((unhide hB).alloc hsz _) (unhide HO) hgr (by simp; omega)
          have T8 := hide ((unhide T5).below hB8)
          have own9 : w8.ownsRow w5.heap.size 9 1 (.slice oa (M + 1) oc) (M + 1) (strs (nx l s)) := by simpa [nx, strs] using own8
          have hMn : (nx l s).length = M + 1 := by rw [nx, List.length_append, unhide hM]; rfl
          have RS8 := hide (RowS.of_own own9)
          have HO9 := hide own9
          replace hMn := hide hMn
          clear own8 hgr hB8 own2 HO own9 ck hB RS T5 hM
          clear HO9
          go_wp2_with fail
          exact ⟨⟨k + 1, M + 1, nx l s, oa, oc, by omega, by have := unhide hl2; have := unhide hMn; omega, rfl, rfl, hMn, hN2, T8, RS8⟩, by simp [intOf]; omega⟩
    · have q : (k : Int) < (len : Int) → ¬ (k : Int) < 50 := fun h1 h2 => hg ⟨by omega, by omega⟩
      have HX : (¬ (k : Int) < (len : Int)) ∨ ((k : Int) < (len : Int) ∧ ¬ (k : Int) < 50) := by
        by_cases h1 : (k : Int) < (len : Int)
        · exact .inr ⟨h1, q h1⟩
        · exact .inl h1
      clear q hg
      have K := hide (within_any n 60 wr (by omega) (by omega))
      obtain ⟨wo, hwo⟩ : ∃ wo : World, wr = wo := ⟨_, rfl⟩
      subst hwo
      have hlt := hide (show l = [] ∨ ∃ g off, a = some ⟨g, off, none⟩ ∧ g < wr.heap.size from by
        rcases unhide R with h | ⟨g, off, cur, h1, h2, h3⟩
        · exact .inl h
        · exact .inr ⟨g, off, h1, lt_of_heap h2⟩)
      have hTle := hide (unhide T).le
      have T0 := hide (show Lt w wr b 64 (pe (fun i => decide (i < lend) && f i) 0 l) by rw [pe_zero]; exact unhide T)
      clear T
      rcases HX with q | ⟨q1, q2⟩
      · go_wp2_with fail
        refine (unhide K).mono ?_
        rintro e w3 ⟨⟨r, r0, r1, rfl⟩, rfl⟩
        clear K
        go_wp2_with fail
        generalize hFF : (fun i => decide (i < lend) && f i) = FF at *
        have HFF := hide hFF
        clear hFF
        generalize hB : w3.heap.size = B at *
        have HB := hide hB
        clear hB
        go_loopw [13, 14, 15] (fun gv sv iv wr => ∃ (i G S : Nat) (ga : Option Addr) (gc : Nat) (sa : Option Addr) (sc : Nat), i ≤ L ∧ iv = .int .i64 (i : Int) ∧ gv = .slice ga G gc ∧ sv = .slice sa S sc ∧ Hid ((gq FF r l i).length = G) ∧ Hid ((sq FF r l i).length = S) ∧ Hid (Lt w wr b 64 (pe FF i l)) ∧ Hid (RowS wr a l) ∧ Hid (wr.ownsRow B 9 1 (.slice ga G gc) G (strs (gq FF r l i))) ∧ Hid (wr.ownsRow B 9 1 (.slice sa S sc) S (strs (sq FF r l i))) ∧ Hid (B ≤ wr.heap.size) ∧ Hid (∀ k, (Value.slice ga G gc).ownBlock = some k → (Value.slice sa S sc).ownBlock ≠ some k)) (fun _ _ iv _ => L - (intOf iv).toNat)
        case atStart => exact ⟨0, 0, 0, none, 0, none, 0, by omega, rfl, rfl, rfl, hide rfl, hide rfl, T0, R, hide (World.ownsRow_nil _ _ _ _), hide (World.ownsRow_nil _ _ _ _), hide (by rw [unhide HB]; exact Nat.le_refl _), hide (by simp [Value.ownBlock])⟩
        case round =>
          obtain ⟨i, G, S, ga, gc, sa, sc, hi, rfl, rfl, rfl, hG, hS, T, R, OG, OS, hBx, hne⟩ := hrel
          clear T0
          by_cases hil : i < L
          · have i0 : (0 : Int) ≤ (i : Int) := by omega
            have i1 : (i : Int) < (L : Int) := by omega
            obtain ⟨x, hx⟩ : ∃ x, l[i]? = some x := ⟨_, List.getElem?_eq_getElem (by rw [unhide hL]; exact hil)⟩
            obtain ⟨g, off2, ea, -, cx0⟩ := (unhide R).rowO i x hx
            subst ea
            have hql := q_len FF r l i
            rw [unhide hG, unhide hS] at hql
            by_cases hid : i < lend
            · have d1 : (i : Int) < (lend : Int) := by omega
              obtain ⟨db, doff, rfl, hdb, hdc⟩ := (unhide hf) i hid
              have d0 := (cell_same ((unhide T).be.block db hdb) (doff + i)).trans hdc
              cases hfv : f i with
              | true =>
                rw [hfv] at d0
                have hfi : FF i = true := by rw [← unhide HFF]; simp [hid, hfv]
                have K := hide (pin_T x (unhide T) (pe_fit _ _ _ (by rw [unhide hL]; omega)))
                rw [pe_pin (unhide hN) hx hfi, (pe_ix (unhide hN) hx).1] at K
                have hq := hide (q_stay hx (.inl hfi) : gq FF r l (i + 1) = gq FF r l i ∧ sq FF r l (i + 1) = sq FF r l i ++ [x])
                have HX1 := hide hx
                clear hdc hdb hx hfv hfi
                go_wp2_with fail
                refine (unhide K).mono ?_
                rintro e wx ⟨rfl, T3, F3⟩
                have R3 := hide ((unhide R).fr (unhide T) F3)
                replace OG := hide (own_fr F3 (unhide T) (by decide) (by decide) (unhide OG))
                replace OS := hide (own_fr F3 (unhide T) (by decide) (by decide) (unhide OS))
                obtain ⟨g', off', ea', -, cx⟩ := (unhide R3).rowO i x (unhide HX1)
                simp only [Option.some.injEq, Addr.mk.injEq, and_true] at ea'
                obtain ⟨rfl, rfl⟩ := ea'
                replace hBx : Hid (B ≤ wx.heap.size) := hide (Nat.le_trans (unhide hBx) F3.size)
                replace T3 := hide T3
                clear K F3 T R cx0 d0 HX1
                have own2 := own_keep (W' := wx.alloc (.cells #[.string x] 9)) (unhide OS) (fun k cur hc => Below.heap_alloc wx _ _ (lt_of_heap hc))
                have HO := hide own2
                have P1 := hide (cell_one_new wx (.string x) 9)
                have P2 : Hid (∀ u ∈ [Value.string x], u.oneCell' = true) := hide (by intro u hu; simp at hu; subst hu; rfl)
                have P3 : Hid (S + 1 ≤ maxLen) := hide (by unfold maxLen; omega)
                have P4 : Hid ((S + 1) * 16 ≤ 140737488355328) := hide (by omega)
                have P5 : Hid (B ≤ (wx.alloc (.cells #[.string x] 9)).heap.size) := hide (by have := unhide hBx; simp; omega)
                go_wp2_with (first
                  | (at_builtin; refine wpList_append_own_at _ rfl _ _ 30 rfl B 9 i9 (.string ByteArray.empty) 1 16 Try.underlying30 hi9 hz0 hz1 hz2 rfl (by decide) _ _ _ rfl own2 ⟨wx.heap.size, 0, none⟩ 1 1 [.string x] rfl rfl (unhide P1) (unhide P2) (unhide P3) (unhide P4) (unhide P5) ?_))
                intro v' w7 own7 hgr _ hat
                obtain ⟨na', nc', rfl⟩ := own_form own7
                have hB7 : Hid (B ≤ w7.heap.size) := hide (by have h1 := hgr.size; simp at h1; have := unhide hBx; omega)
                have T7 := hide ((unhide T3).grown (unhide OS) (by have := unhide hTle; omega) hgr)
                have R7 := hide ((unhide R3).grown (unhide OS) (unhide hlt) hgr)
                have OG7 := hide (own_beside (unhide OG) (ne_symm (unhide hne)) hgr)
                have OS7 := hide own7
                have hne7 := hide (ne_symm (beside_ne (unhide OG) (ne_symm (unhide hne)) hat))
                clear own7 hgr own2 HO OG OS T3 R3 hat cx
                go_wp2_with fail
                refine ⟨⟨i + 1, G, S + 1, ga, gc, na', nc', by omega, rfl, rfl, rfl, hide (by rw [(unhide hq).1]; exact unhide hG), hide (by rw [(unhide hq).2, List.length_append, unhide hS]; rfl), T7, R7, hide (by rw [(unhide hq).1]; exact unhide OG7), hide (by rw [(unhide hq).2]; simpa [strs] using unhide OS7), hB7, hne7⟩, by simp [intOf]; omega⟩
              | false =>
                rw [hfv] at d0
                clear hdc hdb
                have hfi : FF i = false := by rw [← unhide HFF]; simp [hfv]
                have T3 := hide (show Lt w wr b 64 (pe FF (i + 1) l) by rw [pe_not hfi]; exact unhide T)
                have R3 := R
                have cx := cx0
                obtain ⟨wx, hwx⟩ : ∃ wx : World, wr = wx := ⟨_, rfl⟩
                subst hwx
                by_cases hgn : r ≤ (G : Int)
                · have hq := hide (q_stay hx (.inr (by rw [unhide hG]; exact hgn)) : gq FF r l (i + 1) = gq FF r l i ∧ sq FF r l (i + 1) = sq FF r l i ++ [x])
                  clear hx T R cx0
                  have own2 := own_keep (W' := wr.alloc (.cells #[.string x] 9)) (unhide OS) (fun k cur hc => Below.heap_alloc wr _ _ (lt_of_heap hc))
                  have HO := hide own2
                  have P1 := hide (cell_one_new wr (.string x) 9)
                  have P2 : Hid (∀ u ∈ [Value.string x], u.oneCell' = true) := hide (by intro u hu; simp at hu; subst hu; rfl)
                  have P3 : Hid (S + 1 ≤ maxLen) := hide (by unfold maxLen; omega)
                  have P4 : Hid ((S + 1) * 16 ≤ 140737488355328) := hide (by omega)
                  have P5 : Hid (B ≤ (wr.alloc (.cells #[.string x] 9)).heap.size) := hide (by have := unhide hBx; simp; omega)
                  go_wp2_with (first
                    | (at_builtin; refine wpList_append_own_at _ rfl _ _ 30 rfl B 9 i9 (.string ByteArray.empty) 1 16 Try.underlying30 hi9 hz0 hz1 hz2 rfl (by decide) _ _ _ rfl own2 ⟨wr.heap.size, 0, none⟩ 1 1 [.string x] rfl rfl (unhide P1) (unhide P2) (unhide P3) (unhide P4) (unhide P5) ?_))
                  intro v' w7 own7 hgr _ hat
                  obtain ⟨na', nc', rfl⟩ := own_form own7
                  have hB7 : Hid (B ≤ w7.heap.size) := hide (by have h1 := hgr.size; simp at h1; have := unhide hBx; omega)
                  have T7 := hide ((unhide T3).grown (unhide OS) (by have := unhide hTle; omega) hgr)
                  have R7 := hide ((unhide R3).grown (unhide OS) (unhide hlt) hgr)
                  have OG7 := hide (own_beside (unhide OG) (ne_symm (unhide hne)) hgr)
                  have OS7 := hide own7
                  have hne7 := hide (ne_symm (beside_ne (unhide OG) (ne_symm (unhide hne)) hat))
                  clear own7 hgr own2 HO OG OS T3 R3 hat cx
                  go_wp2_with fail
                  refine ⟨⟨i + 1, G, S + 1, ga, gc, na', nc', by omega, rfl, rfl, rfl, hide (by rw [(unhide hq).1]; exact unhide hG), hide (by rw [(unhide hq).2, List.length_append, unhide hS]; rfl), T7, R7, hide (by rw [(unhide hq).1]; exact unhide OG7), hide (by rw [(unhide hq).2]; simpa [strs] using unhide OS7), hB7, hne7⟩, by simp [intOf]; omega⟩

                · have hgn2 : (r ≤ (G : Int)) = False := by simp; omega
                  have hq := hide (q_go hx hfi (by rw [unhide hG]; exact hgn) : gq FF r l (i + 1) = gq FF r l i ++ [x] ∧ sq FF r l (i + 1) = sq FF r l i)
                  clear hx T R cx0
                  have own2 := own_keep (W' := wr.alloc (.cells #[.string x] 9)) (unhide OG) (fun k cur hc => Below.heap_alloc wr _ _ (lt_of_heap hc))
                  have HO := hide own2
                  have P1 := hide (cell_one_new wr (.string x) 9)
                  have P2 : Hid (∀ u ∈ [Value.string x], u.oneCell' = true) := hide (by intro u hu; simp at hu; subst hu; rfl)
                  have P3 : Hid (G + 1 ≤ maxLen) := hide (by unfold maxLen; omega)
                  have P4 : Hid ((G + 1) * 16 ≤ 140737488355328) := hide (by omega)
                  have P5 : Hid (B ≤ (wr.alloc (.cells #[.string x] 9)).heap.size) := hide (by have := unhide hBx; simp; omega)
                  go_wp2_with (first
                    | (at_builtin; refine wpList_append_own_at _ rfl _ _ 30 rfl B 9 i9 (.string ByteArray.empty) 1 16 Try.underlying30 hi9 hz0 hz1 hz2 rfl (by decide) _ _ _ rfl own2 ⟨wr.heap.size, 0, none⟩ 1 1 [.string x] rfl rfl (unhide P1) (unhide P2) (unhide P3) (unhide P4) (unhide P5) ?_))
                  intro v' w7 own7 hgr _ hat
                  obtain ⟨na', nc', rfl⟩ := own_form own7
                  have hB7 : Hid (B ≤ w7.heap.size) := hide (by have h1 := hgr.size; simp at h1; have := unhide hBx; omega)
                  have T7 := hide ((unhide T3).grown (unhide OG) (by have := unhide hTle; omega) hgr)
                  have R7 := hide ((unhide R3).grown (unhide OG) (unhide hlt) hgr)
                  have OS7 := hide (own_beside (unhide OS) (unhide hne) hgr)
                  have OG7 := hide own7
                  have hne7 := hide (beside_ne (unhide OS) (unhide hne) hat)
                  clear own7 hgr own2 HO OG OS T3 R3 hat cx
                  go_wp2_with fail
                  refine ⟨⟨i + 1, G + 1, S, na', nc', sa, sc, by omega, rfl, rfl, rfl, hide (by rw [(unhide hq).1, List.length_append, unhide hG]; rfl), hide (by rw [(unhide hq).2]; exact unhide hS), T7, R7, hide (by rw [(unhide hq).1]; simpa [strs] using unhide OG7), hide (by rw [(unhide hq).2]; exact unhide OS7), hB7, hne7⟩, by simp [intOf]; omega⟩
            · have d1 : ¬ (i : Int) < (lend : Int) := by omega
              have hfi : FF i = false := by rw [← unhide HFF]; simp [hid]
              have T3 := hide (show Lt w wr b 64 (pe FF (i + 1) l) by rw [pe_not hfi]; exact unhide T)
              have R3 := R
              have cx := cx0
              obtain ⟨wx, hwx⟩ : ∃ wx : World, wr = wx := ⟨_, rfl⟩
              subst hwx
              by_cases hgn : r ≤ (G : Int)
              · have hq := hide (q_stay hx (.inr (by rw [unhide hG]; exact hgn)) : gq FF r l (i + 1) = gq FF r l i ∧ sq FF r l (i + 1) = sq FF r l i ++ [x])
                clear hx T R cx0
                have own2 := own_keep (W' := wr.alloc (.cells #[.string x] 9)) (unhide OS) (fun k cur hc => Below.heap_alloc wr _ _ (lt_of_heap hc))
                have HO := hide own2
                have P1 := hide (cell_one_new wr (.string x) 9)
                have P2 : Hid (∀ u ∈ [Value.string x], u.oneCell' = true) := hide (by intro u hu; simp at hu; subst hu; rfl)
                have P3 : Hid (S + 1 ≤ maxLen) := hide (by unfold maxLen; omega)
                have P4 : Hid ((S + 1) * 16 ≤ 140737488355328) := hide (by omega)
                have P5 : Hid (B ≤ (wr.alloc (.cells #[.string x] 9)).heap.size) := hide (by have := unhide hBx; simp; omega)
                go_wp2_with (first
                  | (at_builtin; refine wpList_append_own_at _ rfl _ _ 30 rfl B 9 i9 (.string ByteArray.empty) 1 16 Try.underlying30 hi9 hz0 hz1 hz2 rfl (by decide) _ _ _ rfl own2 ⟨wr.heap.size, 0, none⟩ 1 1 [.string x] rfl rfl (unhide P1) (unhide P2) (unhide P3) (unhide P4) (unhide P5) ?_))
                intro v' w7 own7 hgr _ hat
                obtain ⟨na', nc', rfl⟩ := own_form own7
                have hB7 : Hid (B ≤ w7.heap.size) := hide (by have h1 := hgr.size; simp at h1; have := unhide hBx; omega)
                have T7 := hide ((unhide T3).grown (unhide OS) (by have := unhide hTle; omega) hgr)
                have R7 := hide ((unhide R3).grown (unhide OS) (unhide hlt) hgr)
                have OG7 := hide (own_beside (unhide OG) (ne_symm (unhide hne)) hgr)
                have OS7 := hide own7
                have hne7 := hide (ne_symm (beside_ne (unhide OG) (ne_symm (unhide hne)) hat))
                clear own7 hgr own2 HO OG OS T3 R3 hat cx
                go_wp2_with fail
                refine ⟨⟨i + 1, G, S + 1, ga, gc, na', nc', by omega, rfl, rfl, rfl, hide (by rw [(unhide hq).1]; exact unhide hG), hide (by rw [(unhide hq).2, List.length_append, unhide hS]; rfl), T7, R7, hide (by rw [(unhide hq).1]; exact unhide OG7), hide (by rw [(unhide hq).2]; simpa [strs] using unhide OS7), hB7, hne7⟩, by simp [intOf]; omega⟩

              · have hgn2 : (r ≤ (G : Int)) = False := by simp; omega
                have hq := hide (q_go hx hfi (by rw [unhide hG]; exact hgn) : gq FF r l (i + 1) = gq FF r l i ++ [x] ∧ sq FF r l (i + 1) = sq FF r l i)
                clear hx T R cx0
                have own2 := own_keep (W' := wr.alloc (.cells #[.string x] 9)) (unhide OG) (fun k cur hc => Below.heap_alloc wr _ _ (lt_of_heap hc))
                have HO := hide own2
                have P1 := hide (cell_one_new wr (.string x) 9)
                have P2 : Hid (∀ u ∈ [Value.string x], u.oneCell' = true) := hide (by intro u hu; simp at hu; subst hu; rfl)
                have P3 : Hid (G + 1 ≤ maxLen) := hide (by unfold maxLen; omega)
                have P4 : Hid ((G + 1) * 16 ≤ 140737488355328) := hide (by omega)
                have P5 : Hid (B ≤ (wr.alloc (.cells #[.string x] 9)).heap.size) := hide (by have := unhide hBx; simp; omega)
                go_wp2_with (first
                  | (at_builtin; refine wpList_append_own_at _ rfl _ _ 30 rfl B 9 i9 (.string ByteArray.empty) 1 16 Try.underlying30 hi9 hz0 hz1 hz2 rfl (by decide) _ _ _ rfl own2 ⟨wr.heap.size, 0, none⟩ 1 1 [.string x] rfl rfl (unhide P1) (unhide P2) (unhide P3) (unhide P4) (unhide P5) ?_))
                intro v' w7 own7 hgr _ hat
                obtain ⟨na', nc', rfl⟩ := own_form own7
                have hB7 : Hid (B ≤ w7.heap.size) := hide (by have h1 := hgr.size; simp at h1; have := unhide hBx; omega)
                have T7 := hide ((unhide T3).grown (unhide OG) (by have := unhide hTle; omega) hgr)
                have R7 := hide ((unhide R3).grown (unhide OG) (unhide hlt) hgr)
                have OS7 := hide (own_beside (unhide OS) (unhide hne) hgr)
                have OG7 := hide own7
                have hne7 := hide (beside_ne (unhide OS) (unhide hne) hat)
                clear own7 hgr own2 HO OG OS T3 R3 hat cx
                go_wp2_with fail
                refine ⟨⟨i + 1, G + 1, S, na', nc', sa, sc, by omega, rfl, rfl, rfl, hide (by rw [(unhide hq).1, List.length_append, unhide hG]; rfl), hide (by rw [(unhide hq).2]; exact unhide hS), T7, R7, hide (by rw [(unhide hq).1]; simpa [strs] using unhide OG7), hide (by rw [(unhide hq).2]; exact unhide OS7), hB7, hne7⟩, by simp [intOf]; omega⟩
          · have i1 : ¬ (i : Int) < (L : Int) := by omega
            obtain rfl : i = L := by omega
            have hE : (pe FF l.length l) = pe FF i l := by rw [unhide hL]
            have eg : gq FF r l i = (shr r (pe FF i l)).1 := by rw [gq, hE, List.take_of_length_le (by rw [pe_len, unhide hL]; exact Nat.le_refl _)]
            have es : sq FF r l i = (shr r (pe FF i l)).2.map (·.1) := by rw [sq, hE, List.take_of_length_le (by rw [pe_len, unhide hL]; exact Nat.le_refl _)]
            have hel : (pe FF i l).length = i := by rw [pe_len, unhide hL]
            have eo : olds (pe FF i l) 100 = l := by rw [olds, List.take_of_length_le (by rw [hel]; omega), pe_keys]
            have hsl := shr_len r (pe FF i l)
            have eo2 : olds (shr r (pe FF i l)).2 100 = sq FF r l i := by rw [olds, List.take_of_length_le (by omega), es]
            have K1 := hide (oldest_T 100 (unhide T) (by rw [hel]; omega))
            rw [eo, unhide hL] at K1
            have hE2 := hide hel
            have hS2 := hide (show (shr r (pe FF i l)).2.length ≤ 900 by omega)
            replace eg := hide eg
            replace eo2 := hide eo2
            have hGs := hide (show G ≤ 1000 by rw [← unhide hG, unhide eg]; omega)
            have hSs := hide (show S ≤ 1000 by rw [← unhide hS, es, List.length_map]; omega)
            clear hE es eo hel hsl
            go_wp2_with fail
            refine (unhide K1).mono ?_
            rintro e w4 ⟨xa, xc, rfl, own4, T4, B4⟩
            have KS := hide (same_yes xa a xc c i l (unhide hL) (by omega) w4 (RowO.of_own own4) ((unhide R).below B4).rowO)
            have OG4 := hide (own_keep (unhide OG) fun k _ hc => B4.block k (lt_of_heap hc))
            have OS4 := hide (own_keep (unhide OS) fun k _ hc => B4.block k (lt_of_heap hc))
            replace T4 := hide T4
            clear own4 B4 K1 T R OG OS
            go_wp2_with fail
            refine (unhide KS).mono ?_
            rintro e w5 ⟨rfl, B5⟩
            have T5 := (unhide T4).below B5
            have OG5 := hide (own_keep (unhide OG4) fun k _ hc => B5.block k (lt_of_heap hc))
            have OS5 := hide (own_keep (unhide OS4) fun k _ hc => B5.block k (lt_of_heap hc))
            have K2 := hide (shrink_T r T5 (by rw [unhide hE2]; omega))
            rw [← unhide eg, unhide hG] at K2
            replace T5 := hide T5
            clear KS B5 T4 OG4 OS4
            go_wp2_with fail
            refine (unhide K2).mono ?_
            rintro e w6 ⟨ya, yc, rfl, own6, T6, F6⟩
            have OG6 := own_fr F6 (unhide T5) (by decide) (by decide) (unhide OG5)
            have OS6 := hide (own_fr F6 (unhide T5) (by decide) (by decide) (unhide OS5))
            have KS := hide (same_yes ya ga yc gc G (gq FF r l i) (unhide hG) (by have := unhide hGs; omega) w6 (RowO.of_own own6) (RowO.of_own OG6))
            replace T6 := hide T6
            clear own6 OG6 F6 K2 T5 OG5 OS5
            go_wp2_with fail
            refine (unhide KS).mono ?_
            rintro e w7 ⟨rfl, B7⟩
            have T7 := (unhide T6).below B7
            have OS7 := hide (own_keep (unhide OS6) fun k _ hc => B7.block k (lt_of_heap hc))
            have K3 := hide (oldest_T 100 T7 (unhide hS2))
            rw [unhide eo2, unhide hS] at K3
            clear KS B7 T6 OS6 T7
            go_wp2_with fail
            refine (unhide K3).mono ?_
            rintro e w8 ⟨za, zc, rfl, own8, T8, B8⟩
            have OS8 := own_keep (unhide OS7) fun k _ hc => B8.block k (lt_of_heap hc)
            have KS := hide (same_yes za sa zc sc S (sq FF r l i) (unhide hS) (by have := unhide hSs; omega) w8 (RowO.of_own own8) (RowO.of_own OS8))
            replace T8 := hide T8
            clear own8 OS8 B8 K3 OS7
            go_wp2_with fail
            refine (unhide KS).mono ?_
            rintro e w9 ⟨rfl, B9⟩
            have T9 := hide ((unhide T8).below B9)
            have KK := hide (known_any w9)
            clear KS B9 T8
            go_wp2_with fail
            refine (unhide KK).mono ?_
            rintro e w10 ⟨rfl, B10⟩
            replace B10 := hide B10
            go_wp2_with fail
            go_ret
            exact ⟨rfl, ((unhide T9).below (unhide B10)).be⟩
      · go_wp2_with fail
        refine (unhide K).mono ?_
        rintro e w3 ⟨⟨r, r0, r1, rfl⟩, rfl⟩
        clear K
        go_wp2_with fail
        generalize hFF : (fun i => decide (i < lend) && f i) = FF at *
        have HFF := hide hFF
        clear hFF
        generalize hB : w3.heap.size = B at *
        have HB := hide hB
        clear hB
        go_loopw [13, 14, 15] (fun gv sv iv wr => ∃ (i G S : Nat) (ga : Option Addr) (gc : Nat) (sa : Option Addr) (sc : Nat), i ≤ L ∧ iv = .int .i64 (i : Int) ∧ gv = .slice ga G gc ∧ sv = .slice sa S sc ∧ Hid ((gq FF r l i).length = G) ∧ Hid ((sq FF r l i).length = S) ∧ Hid (Lt w wr b 64 (pe FF i l)) ∧ Hid (RowS wr a l) ∧ Hid (wr.ownsRow B 9 1 (.slice ga G gc) G (strs (gq FF r l i))) ∧ Hid (wr.ownsRow B 9 1 (.slice sa S sc) S (strs (sq FF r l i))) ∧ Hid (B ≤ wr.heap.size) ∧ Hid (∀ k, (Value.slice ga G gc).ownBlock = some k → (Value.slice sa S sc).ownBlock ≠ some k)) (fun _ _ iv _ => L - (intOf iv).toNat)
        case atStart => exact ⟨0, 0, 0, none, 0, none, 0, by omega, rfl, rfl, rfl, hide rfl, hide rfl, T0, R, hide (World.ownsRow_nil _ _ _ _), hide (World.ownsRow_nil _ _ _ _), hide (by rw [unhide HB]; exact Nat.le_refl _), hide (by simp [Value.ownBlock])⟩
        case round =>
          obtain ⟨i, G, S, ga, gc, sa, sc, hi, rfl, rfl, rfl, hG, hS, T, R, OG, OS, hBx, hne⟩ := hrel
          clear T0
          by_cases hil : i < L
          · have i0 : (0 : Int) ≤ (i : Int) := by omega
            have i1 : (i : Int) < (L : Int) := by omega
            obtain ⟨x, hx⟩ : ∃ x, l[i]? = some x := ⟨_, List.getElem?_eq_getElem (by rw [unhide hL]; exact hil)⟩
            obtain ⟨g, off2, ea, -, cx0⟩ := (unhide R).rowO i x hx
            subst ea
            have hql := q_len FF r l i
            rw [unhide hG, unhide hS] at hql
            by_cases hid : i < lend
            · have d1 : (i : Int) < (lend : Int) := by omega
              obtain ⟨db, doff, rfl, hdb, hdc⟩ := (unhide hf) i hid
              have d0 := (cell_same ((unhide T).be.block db hdb) (doff + i)).trans hdc
              cases hfv : f i with
              | true =>
                rw [hfv] at d0
                have hfi : FF i = true := by rw [← unhide HFF]; simp [hid, hfv]
                have K := hide (pin_T x (unhide T) (pe_fit _ _ _ (by rw [unhide hL]; omega)))
                rw [pe_pin (unhide hN) hx hfi, (pe_ix (unhide hN) hx).1] at K
                have hq := hide (q_stay hx (.inl hfi) : gq FF r l (i + 1) = gq FF r l i ∧ sq FF r l (i + 1) = sq FF r l i ++ [x])
                have HX1 := hide hx
                clear hdc hdb hx hfv hfi
                go_wp2_with fail
                refine (unhide K).mono ?_
                rintro e wx ⟨rfl, T3, F3⟩
                have R3 := hide ((unhide R).fr (unhide T) F3)
                replace OG := hide (own_fr F3 (unhide T) (by decide) (by decide) (unhide OG))
                replace OS := hide (own_fr F3 (unhide T) (by decide) (by decide) (unhide OS))
                obtain ⟨g', off', ea', -, cx⟩ := (unhide R3).rowO i x (unhide HX1)
                simp only [Option.some.injEq, Addr.mk.injEq, and_true] at ea'
                obtain ⟨rfl, rfl⟩ := ea'
                replace hBx : Hid (B ≤ wx.heap.size) := hide (Nat.le_trans (unhide hBx) F3.size)
                replace T3 := hide T3
                clear K F3 T R cx0 d0 HX1
                have own2 := own_keep (W' := wx.alloc (.cells #[.string x] 9)) (unhide OS) (fun k cur hc => Below.heap_alloc wx _ _ (lt_of_heap hc))
                have HO := hide own2
                have P1 := hide (cell_one_new wx (.string x) 9)
                have P2 : Hid (∀ u ∈ [Value.string x], u.oneCell' = true) := hide (by intro u hu; simp at hu; subst hu; rfl)
                have P3 : Hid (S + 1 ≤ maxLen) := hide (by unfold maxLen; omega)
                have P4 : Hid ((S + 1) * 16 ≤ 140737488355328) := hide (by omega)
                have P5 : Hid (B ≤ (wx.alloc (.cells #[.string x] 9)).heap.size) := hide (by have := unhide hBx; simp; omega)
                go_wp2_with (first
                  | (at_builtin; refine wpList_append_own_at _ rfl _ _ 30 rfl B 9 i9 (.string ByteArray.empty) 1 16 Try.underlying30 hi9 hz0 hz1 hz2 rfl (by decide) _ _ _ rfl own2 ⟨wx.heap.size, 0, none⟩ 1 1 [.string x] rfl rfl (unhide P1) (unhide P2) (unhide P3) (unhide P4) (unhide P5) ?_))
                intro v' w7 own7 hgr _ hat
                obtain ⟨na', nc', rfl⟩ := own_form own7
                have hB7 : Hid (B ≤ w7.heap.size) := hide (by have h1 := hgr.size; simp at h1; have := unhide hBx; omega)
                have T7 := hide ((unhide T3).grown (unhide OS) (by have := unhide hTle; omega) hgr)
                have R7 := hide ((unhide R3).grown (unhide OS) (unhide hlt) hgr)
                have OG7 := hide (own_beside (unhide OG) (ne_symm (unhide hne)) hgr)
                have OS7 := hide own7
                have hne7 := hide (ne_symm (beside_ne (unhide OG) (ne_symm (unhide hne)) hat))
                clear own7 hgr own2 HO OG OS T3 R3 hat cx
                go_wp2_with fail
                refine ⟨⟨i + 1, G, S + 1, ga, gc, na', nc', by omega, rfl, rfl, rfl, hide (by rw [(unhide hq).1]; exact unhide hG), hide (by rw [(unhide hq).2, List.length_append, unhide hS]; rfl), T7, R7, hide (by rw [(unhide hq).1]; exact unhide OG7), hide (by rw [(unhide hq).2]; simpa [strs] using unhide OS7), hB7, hne7⟩, by simp [intOf]; omega⟩
              | false =>
                rw [hfv] at d0
                clear hdc hdb
                have hfi : FF i = false := by rw [← unhide HFF]; simp [hfv]
                have T3 := hide (show Lt w wr b 64 (pe FF (i + 1) l) by rw [pe_not hfi]; exact unhide T)
                have R3 := R
                have cx := cx0
                obtain ⟨wx, hwx⟩ : ∃ wx : World, wr = wx := ⟨_, rfl⟩
                subst hwx
                by_cases hgn : r ≤ (G : Int)
                · have hq := hide (q_stay hx (.inr (by rw [unhide hG]; exact hgn)) : gq FF r l (i + 1) = gq FF r l i ∧ sq FF r l (i + 1) = sq FF r l i ++ [x])
                  clear hx T R cx0
                  have own2 := own_keep (W' := wr.alloc (.cells #[.string x] 9)) (unhide OS) (fun k cur hc => Below.heap_alloc wr _ _ (lt_of_heap hc))
                  have HO := hide own2
                  have P1 := hide (cell_one_new wr (.string x) 9)
                  have P2 : Hid (∀ u ∈ [Value.string x], u.oneCell' = true) := hide (by intro u hu; simp at hu; subst hu; rfl)
                  have P3 : Hid (S + 1 ≤ maxLen) := hide (by unfold maxLen; omega)
                  have P4 : Hid ((S + 1) * 16 ≤ 140737488355328) := hide (by omega)
                  have P5 : Hid (B ≤ (wr.alloc (.cells #[.string x] 9)).heap.size) := hide (by have := unhide hBx; simp; omega)
                  go_wp2_with (first
                    | (at_builtin; refine wpList_append_own_at _ rfl _ _ 30 rfl B 9 i9 (.string ByteArray.empty) 1 16 Try.underlying30 hi9 hz0 hz1 hz2 rfl (by decide) _ _ _ rfl own2 ⟨wr.heap.size, 0, none⟩ 1 1 [.string x] rfl rfl (unhide P1) (unhide P2) (unhide P3) (unhide P4) (unhide P5) ?_))
                  intro v' w7 own7 hgr _ hat
                  obtain ⟨na', nc', rfl⟩ := own_form own7
                  have hB7 : Hid (B ≤ w7.heap.size) := hide (by have h1 := hgr.size; simp at h1; have := unhide hBx; omega)
                  have T7 := hide ((unhide T3).grown (unhide OS) (by have := unhide hTle; omega) hgr)
                  have R7 := hide ((unhide R3).grown (unhide OS) (unhide hlt) hgr)
                  have OG7 := hide (own_beside (unhide OG) (ne_symm (unhide hne)) hgr)
                  have OS7 := hide own7
                  have hne7 := hide (ne_symm (beside_ne (unhide OG) (ne_symm (unhide hne)) hat))
                  clear own7 hgr own2 HO OG OS T3 R3 hat cx
                  go_wp2_with fail
                  refine ⟨⟨i + 1, G, S + 1, ga, gc, na', nc', by omega, rfl, rfl, rfl, hide (by rw [(unhide hq).1]; exact unhide hG), hide (by rw [(unhide hq).2, List.length_append, unhide hS]; rfl), T7, R7, hide (by rw [(unhide hq).1]; exact unhide OG7), hide (by rw [(unhide hq).2]; simpa [strs] using unhide OS7), hB7, hne7⟩, by simp [intOf]; omega⟩

                · have hgn2 : (r ≤ (G : Int)) = False := by simp; omega
                  have hq := hide (q_go hx hfi (by rw [unhide hG]; exact hgn) : gq FF r l (i + 1) = gq FF r l i ++ [x] ∧ sq FF r l (i + 1) = sq FF r l i)
                  clear hx T R cx0
                  have own2 := own_keep (W' := wr.alloc (.cells #[.string x] 9)) (unhide OG) (fun k cur hc => Below.heap_alloc wr _ _ (lt_of_heap hc))
                  have HO := hide own2
                  have P1 := hide (cell_one_new wr (.string x) 9)
                  have P2 : Hid (∀ u ∈ [Value.string x], u.oneCell' = true) := hide (by intro u hu; simp at hu; subst hu; rfl)
                  have P3 : Hid (G + 1 ≤ maxLen) := hide (by unfold maxLen; omega)
                  have P4 : Hid ((G + 1) * 16 ≤ 140737488355328) := hide (by omega)
                  have P5 : Hid (B ≤ (wr.alloc (.cells #[.string x] 9)).heap.size) := hide (by have := unhide hBx; simp; omega)
                  go_wp2_with (first
                    | (at_builtin; refine wpList_append_own_at _ rfl _ _ 30 rfl B 9 i9 (.string ByteArray.empty) 1 16 Try.underlying30 hi9 hz0 hz1 hz2 rfl (by decide) _ _ _ rfl own2 ⟨wr.heap.size, 0, none⟩ 1 1 [.string x] rfl rfl (unhide P1) (unhide P2) (unhide P3) (unhide P4) (unhide P5) ?_))
                  intro v' w7 own7 hgr _ hat
                  obtain ⟨na', nc', rfl⟩ := own_form own7
                  have hB7 : Hid (B ≤ w7.heap.size) := hide (by have h1 := hgr.size; simp at h1; have := unhide hBx; omega)
                  have T7 := hide ((unhide T3).grown (unhide OG) (by have := unhide hTle; omega) hgr)
                  have R7 := hide ((unhide R3).grown (unhide OG) (unhide hlt) hgr)
                  have OS7 := hide (own_beside (unhide OS) (unhide hne) hgr)
                  have OG7 := hide own7
                  have hne7 := hide (beside_ne (unhide OS) (unhide hne) hat)
                  clear own7 hgr own2 HO OG OS T3 R3 hat cx
                  go_wp2_with fail
                  refine ⟨⟨i + 1, G + 1, S, na', nc', sa, sc, by omega, rfl, rfl, rfl, hide (by rw [(unhide hq).1, List.length_append, unhide hG]; rfl), hide (by rw [(unhide hq).2]; exact unhide hS), T7, R7, hide (by rw [(unhide hq).1]; simpa [strs] using unhide OG7), hide (by rw [(unhide hq).2]; exact unhide OS7), hB7, hne7⟩, by simp [intOf]; omega⟩
            · have d1 : ¬ (i : Int) < (lend : Int) := by omega
              have hfi : FF i = false := by rw [← unhide HFF]; simp [hid]
              have T3 := hide (show Lt w wr b 64 (pe FF (i + 1) l) by rw [pe_not hfi]; exact unhide T)
              have R3 := R
              have cx := cx0
              obtain ⟨wx, hwx⟩ : ∃ wx : World, wr = wx := ⟨_, rfl⟩
              subst hwx
              by_cases hgn : r ≤ (G : Int)
              · have hq := hide (q_stay hx (.inr (by rw [unhide hG]; exact hgn)) : gq FF r l (i + 1) = gq FF r l i ∧ sq FF r l (i + 1) = sq FF r l i ++ [x])
                clear hx T R cx0
                have own2 := own_keep (W' := wr.alloc (.cells #[.string x] 9)) (unhide OS) (fun k cur hc => Below.heap_alloc wr _ _ (lt_of_heap hc))
                have HO := hide own2
                have P1 := hide (cell_one_new wr (.string x) 9)
                have P2 : Hid (∀ u ∈ [Value.string x], u.oneCell' = true) := hide (by intro u hu; simp at hu; subst hu; rfl)
                have P3 : Hid (S + 1 ≤ maxLen) := hide (by unfold maxLen; omega)
                have P4 : Hid ((S + 1) * 16 ≤ 140737488355328) := hide (by omega)
                have P5 : Hid (B ≤ (wr.alloc (.cells #[.string x] 9)).heap.size) := hide (by have := unhide hBx; simp; omega)
                go_wp2_with (first
                  | (at_builtin; refine wpList_append_own_at _ rfl _ _ 30 rfl B 9 i9 (.string ByteArray.empty) 1 16 Try.underlying30 hi9 hz0 hz1 hz2 rfl (by decide) _ _ _ rfl own2 ⟨wr.heap.size, 0, none⟩ 1 1 [.string x] rfl rfl (unhide P1) (unhide P2) (unhide P3) (unhide P4) (unhide P5) ?_))
                intro v' w7 own7 hgr _ hat
                obtain ⟨na', nc', rfl⟩ := own_form own7
                have hB7 : Hid (B ≤ w7.heap.size) := hide (by have h1 := hgr.size; simp at h1; have := unhide hBx; omega)
                have T7 := hide ((unhide T3).grown (unhide OS) (by have := unhide hTle; omega) hgr)
                have R7 := hide ((unhide R3).grown (unhide OS) (unhide hlt) hgr)
                have OG7 := hide (own_beside (unhide OG) (ne_symm (unhide hne)) hgr)
                have OS7 := hide own7
                have hne7 := hide (ne_symm (beside_ne (unhide OG) (ne_symm (unhide hne)) hat))
                clear own7 hgr own2 HO OG OS T3 R3 hat cx
                go_wp2_with fail
                refine ⟨⟨i + 1, G, S + 1, ga, gc, na', nc', by omega, rfl, rfl, rfl, hide (by rw [(unhide hq).1]; exact unhide hG), hide (by rw [(unhide hq).2, List.length_append, unhide hS]; rfl), T7, R7, hide (by rw [(unhide hq).1]; exact unhide OG7), hide (by rw [(unhide hq).2]; simpa [strs] using unhide OS7), hB7, hne7⟩, by simp [intOf]; omega⟩

              · have hgn2 : (r ≤ (G : Int)) = False := by simp; omega
                have hq := hide (q_go hx hfi (by rw [unhide hG]; exact hgn) : gq FF r l (i + 1) = gq FF r l i ++ [x] ∧ sq FF r l (i + 1) = sq FF r l i)
                clear hx T R cx0
                have own2 := own_keep (W' := wr.alloc (.cells #[.string x] 9)) (unhide OG) (fun k cur hc => Below.heap_alloc wr _ _ (lt_of_heap hc))
                have HO := hide own2
                have P1 := hide (cell_one_new wr (.string x) 9)
                have P2 : Hid (∀ u ∈ [Value.string x], u.oneCell' = true) := hide (by intro u hu; simp at hu; subst hu; rfl)
                have P3 : Hid (G + 1 ≤ maxLen) := hide (by unfold maxLen; omega)
                have P4 : Hid ((G + 1) * 16 ≤ 140737488355328) := hide (by omega)
                have P5 : Hid (B ≤ (wr.alloc (.cells #[.string x] 9)).heap.size) := hide (by have := unhide hBx; simp; omega)
                go_wp2_with (first
                  | (at_builtin; refine wpList_append_own_at _ rfl _ _ 30 rfl B 9 i9 (.string ByteArray.empty) 1 16 Try.underlying30 hi9 hz0 hz1 hz2 rfl (by decide) _ _ _ rfl own2 ⟨wr.heap.size, 0, none⟩ 1 1 [.string x] rfl rfl (unhide P1) (unhide P2) (unhide P3) (unhide P4) (unhide P5) ?_))
                intro v' w7 own7 hgr _ hat
                obtain ⟨na', nc', rfl⟩ := own_form own7
                have hB7 : Hid (B ≤ w7.heap.size) := hide (by have h1 := hgr.size; simp at h1; have := unhide hBx; omega)
                have T7 := hide ((unhide T3).grown (unhide OG) (by have := unhide hTle; omega) hgr)
                have R7 := hide ((unhide R3).grown (unhide OG) (unhide hlt) hgr)
                have OS7 := hide (own_beside (unhide OS) (unhide hne) hgr)
                have OG7 := hide own7
                have hne7 := hide (beside_ne (unhide OS) (unhide hne) hat)
                clear own7 hgr own2 HO OG OS T3 R3 hat cx
                go_wp2_with fail
                refine ⟨⟨i + 1, G + 1, S, na', nc', sa, sc, by omega, rfl, rfl, rfl, hide (by rw [(unhide hq).1, List.length_append, unhide hG]; rfl), hide (by rw [(unhide hq).2]; exact unhide hS), T7, R7, hide (by rw [(unhide hq).1]; simpa [strs] using unhide OG7), hide (by rw [(unhide hq).2]; exact unhide OS7), hB7, hne7⟩, by simp [intOf]; omega⟩
          · have i1 : ¬ (i : Int) < (L : Int) := by omega
            obtain rfl : i = L := by omega
            have hE : (pe FF l.length l) = pe FF i l := by rw [unhide hL]
            have eg : gq FF r l i = (shr r (pe FF i l)).1 := by rw [gq, hE, List.take_of_length_le (by rw [pe_len, unhide hL]; exact Nat.le_refl _)]
            have es : sq FF r l i = (shr r (pe FF i l)).2.map (·.1) := by rw [sq, hE, List.take_of_length_le (by rw [pe_len, unhide hL]; exact Nat.le_refl _)]
            have hel : (pe FF i l).length = i := by rw [pe_len, unhide hL]
            have eo : olds (pe FF i l) 100 = l := by rw [olds, List.take_of_length_le (by rw [hel]; omega), pe_keys]
            have hsl := shr_len r (pe FF i l)
            have eo2 : olds (shr r (pe FF i l)).2 100 = sq FF r l i := by rw [olds, List.take_of_length_le (by omega), es]
            have K1 := hide (oldest_T 100 (unhide T) (by rw [hel]; omega))
            rw [eo, unhide hL] at K1
            have hE2 := hide hel
            have hS2 := hide (show (shr r (pe FF i l)).2.length ≤ 900 by omega)
            replace eg := hide eg
            replace eo2 := hide eo2
            have hGs := hide (show G ≤ 1000 by rw [← unhide hG, unhide eg]; omega)
            have hSs := hide (show S ≤ 1000 by rw [← unhide hS, es, List.length_map]; omega)
            clear hE es eo hel hsl
            go_wp2_with fail
            refine (unhide K1).mono ?_
            rintro e w4 ⟨xa, xc, rfl, own4, T4, B4⟩
            have KS := hide (same_yes xa a xc c i l (unhide hL) (by omega) w4 (RowO.of_own own4) ((unhide R).below B4).rowO)
            have OG4 := hide (own_keep (unhide OG) fun k _ hc => B4.block k (lt_of_heap hc))
            have OS4 := hide (own_keep (unhide OS) fun k _ hc => B4.block k (lt_of_heap hc))
            replace T4 := hide T4
            clear own4 B4 K1 T R OG OS
            go_wp2_with fail
            refine (unhide KS).mono ?_
            rintro e w5 ⟨rfl, B5⟩
            have T5 := (unhide T4).below B5
            have OG5 := hide (own_keep (unhide OG4) fun k _ hc => B5.block k (lt_of_heap hc))
            have OS5 := hide (own_keep (unhide OS4) fun k _ hc => B5.block k (lt_of_heap hc))
            have K2 := hide (shrink_T r T5 (by rw [unhide hE2]; omega))
            rw [← unhide eg, unhide hG] at K2
            replace T5 := hide T5
            clear KS B5 T4 OG4 OS4
            go_wp2_with fail
            refine (unhide K2).mono ?_
            rintro e w6 ⟨ya, yc, rfl, own6, T6, F6⟩
            have OG6 := own_fr F6 (unhide T5) (by decide) (by decide) (unhide OG5)
            have OS6 := hide (own_fr F6 (unhide T5) (by decide) (by decide) (unhide OS5))
            have KS := hide (same_yes ya ga yc gc G (gq FF r l i) (unhide hG) (by have := unhide hGs; omega) w6 (RowO.of_own own6) (RowO.of_own OG6))
            replace T6 := hide T6
            clear own6 OG6 F6 K2 T5 OG5 OS5
            go_wp2_with fail
            refine (unhide KS).mono ?_
            rintro e w7 ⟨rfl, B7⟩
            have T7 := (unhide T6).below B7
            have OS7 := hide (own_keep (unhide OS6) fun k _ hc => B7.block k (lt_of_heap hc))
            have K3 := hide (oldest_T 100 T7 (unhide hS2))
            rw [unhide eo2, unhide hS] at K3
            clear KS B7 T6 OS6 T7
            go_wp2_with fail
            refine (unhide K3).mono ?_
            rintro e w8 ⟨za, zc, rfl, own8, T8, B8⟩
            have OS8 := own_keep (unhide OS7) fun k _ hc => B8.block k (lt_of_heap hc)
            have KS := hide (same_yes za sa zc sc S (sq FF r l i) (unhide hS) (by have := unhide hSs; omega) w8 (RowO.of_own own8) (RowO.of_own OS8))
            replace T8 := hide T8
            clear own8 OS8 B8 K3 OS7
            go_wp2_with fail
            refine (unhide KS).mono ?_
            rintro e w9 ⟨rfl, B9⟩
            have T9 := hide ((unhide T8).below B9)
            have KK := hide (known_any w9)
            clear KS B9 T8
            go_wp2_with fail
            refine (unhide KK).mono ?_
            rintro e w10 ⟨rfl, B10⟩
            replace B10 := hide B10
            go_wp2_with fail
            go_ret
            exact ⟨rfl, ((unhide T9).below (unhide B10)).be⟩
end Go.Proofs.Ytjcjibjagjiedaa
