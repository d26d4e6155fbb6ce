/-
  The contract of the document's Clean.
-/
import Derived.Test.YtnhddendkolfeaaRefD
namespace Go.Proofs.Ytnhddendkolfeaa
open Go.RowKit
attribute [local go_sem ↓] Go.wp_at_zero Go.wp_at_succ

/-- A path of the document's in a box of its own. -/
structure PD (W : World) (b : Nat) (r s : Bool) (a : Option Addr) (n cap : Nat) (q : List (List UInt8)) : Prop where
  bx : W.heap[b]? = some (.cells #[.bool r, .bool s, .slice a n cap] 33)
  rw : RowO W a q
theorem PD.below {W W' : World} {b : Nat} {r s : Bool} {a : Option Addr} {n cap : Nat} {q : List (List UInt8)} (P : PD W b r s a n cap q) (h : Below W.heap.size W W') : PD W' b r s a n cap q :=
  ⟨(h.block b (lt_of_heap P.bx)).trans P.bx, P.rw.below h⟩
theorem PD.drew {W : World} {b : Nat} {r s : Bool} {a : Option Addr} {n cap : Nat} {q : List (List UInt8)} (P : PD W b r s a n cap q) : PD W.drew b r s a n cap q := P.below (below_drew (Below.refl _ W))
theorem PD.cells {W : World} {b : Nat} {r s : Bool} {a : Option Addr} {n cap : Nat} {q : List (List UInt8)} (P : PD W b r s a n cap q) : W.cell? ⟨b, 0, none⟩ = some (.bool r) ∧ W.cell? ⟨b, 1, none⟩ = some (.bool s) ∧ W.cell? ⟨b, 2, none⟩ = some (.slice a n cap) := by
  refine ⟨?_, ?_, ?_⟩ <;> rw [cell_of P.bx] <;> rfl
theorem dbox {W : World} {r s : Bool} {a : Option Addr} {n cap : Nat} {q : List (List UInt8)} (h : RowO W a q) : ∃ W', W.alloc (.cells #[.bool r, .bool s, .slice a n cap] 33) = W' ∧ Below W.heap.size W W' ∧ PD W' W.heap.size r s a n cap q := by
  obtain ⟨W', h1, h2, h3⟩ := box (W := W) (.cells #[.bool r, .bool s, .slice a n cap] 33)
  exact ⟨W', h1, h2, h3, h.below h2⟩
/-- A path that grows, in a box b; its row lies from b on. -/
structure EJ (w W : World) (b : Nat) (r s : Bool) (a : Option Addr) (n cap : Nat) (q : List (List UInt8)) : Prop where
  be : Below b w W
  bx : W.heap[b]? = some (.cells #[.bool r, .bool s, .slice a n cap] 33)
  ow : W.ownsRow b 9 1 (.slice a n cap) n (strs q)
theorem EJ.cells {w W : World} {b : Nat} {r s : Bool} {a : Option Addr} {n cap : Nat} {q : List (List UInt8)} (J : EJ w W b r s a n cap q) : W.cell? ⟨b, 0, none⟩ = some (.bool r) ∧ W.cell? ⟨b, 1, none⟩ = some (.bool s) ∧ W.cell? ⟨b, 2, none⟩ = some (.slice a n cap) ∧ W.frozen? ⟨b, 2, none⟩ = false := by
  refine ⟨?_, ?_, ?_, frozen_of J.bx 2⟩ <;> rw [cell_of J.bx] <;> rfl
theorem EJ.drew {w W : World} {b : Nat} {r s : Bool} {a : Option Addr} {n cap : Nat} {q : List (List UInt8)} (J : EJ w W b r s a n cap q) : EJ w W.drew b r s a n cap q :=
  ⟨below_drew J.be, J.bx, own_keep J.ow fun _ _ _ => rfl⟩
theorem EJ.more {w X : World} {b : Nat} {r s : Bool} {a : Option Addr} {n cap : Nat} {q : List (List UInt8)} (J : EJ w X b r s a n cap q) (x : List UInt8) (hn : n ≤ 10000) :
    ∃ a' cap' W6, AppRun 22 22 (.slice a n cap) (.slice (some ⟨X.heap.size, 0, none⟩) 1 1) (X.alloc (.cells #[S x] 9)) (.slice a' (n + 1) cap') W6 ∧ W6.cell? ⟨b, 2, none⟩ = some (.slice a n cap) ∧ W6.frozen? ⟨b, 2, none⟩ = false ∧
      EJ w (W6.setCell ⟨b, 2, none⟩ (.slice a' (n + 1) cap')) b r s a' (n + 1) cap' (q ++ [x]) := by
  obtain ⟨i0, hi, hz0, hz1, hz2⟩ := info_parts info9
  have hl := lt_of_heap J.bx
  have own5 := own_keep (W' := X.alloc (.cells #[S x] 9)) J.ow (fun k cur hc => Below.heap_alloc X _ _ (lt_of_heap hc))
  obtain ⟨v', W6, hrun, own6, hgr, -, -⟩ := run_append_own_at (P := Try.prog) (X.alloc (.cells #[S x] 9)) b 22 22 9 i0 (.string ByteArray.empty) 1 16 Try.underlying22 hi hz0 hz1 hz2 rfl (by decide) (.slice a n cap) _ _ own5 ⟨X.heap.size, 0, none⟩ 1 1 [S x] rfl (cell_one_new X _ _) (by intro u hu; simp at hu; subst hu; rfl) (by unfold maxLen; omega) (by omega) (by simp; omega)
  obtain ⟨a', c', rfl⟩ := own_form own6
  have b6 : W6.heap[b]? = some (.cells #[.bool r, .bool s, .slice a n cap] 33) := grown_keep J.ow hgr J.bx (by simp)
  have be6 : Below b w W6 := below_grown (J.be.alloc (by omega) _) own5 hgr (by simp; omega)
  refine ⟨a', c', W6, ⟨hrun⟩, by rw [cell_of b6]; rfl, frozen_of b6 2, be6.setCell (p := ⟨b, 2, none⟩) (Nat.le_refl _) _, ?_, ?_⟩
  · rw [heap_set b6]; simp
  · have e2 : strs (q ++ [x]) = strs q ++ [S x] := by simp [strs]
    rw [e2]
    refine own_keep own6 fun k cur hc => Below.heap_setCell _ _ _ _ ?_
    rintro rfl
    rw [b6] at hc
    simp at hc
set_option maxRecDepth 100000 in
set_option maxHeartbeats 4000000 in
theorem rclean_any (l : List UInt8) (w : World) : Calls Try.prog 16 #[S l] w fun e w' => e = .returned (.tuple #[S (cl l), .int .i64 (err l)]) ∧ Below w.heap.size w w' := by
  have HR := hide (rread_any l w)
  obtain ⟨p1, p2⟩ := ps_small l
  have hcl : Hid (err l = 0 → cl l = if nodots (ps l) = [] ∧ rt l = false then [46] else pw (rt l) (sl l) (nodots (ps l))) := hide fun h => by simp [cl, ps, h]
  have hcl0 : Hid (¬ err l = 0 → cl l = []) := hide fun h => by simp [cl, h]
  generalize err l = er at *
  generalize cl l = out at *
  generalize rt l = r at *
  generalize sl l = s at *
  generalize ps l = q at *
  go_enter Try.func16, Try.ntmps16
  go_wp2_with fail
  refine (unhide HR).mono ?_
  rintro e w1 ⟨a4, c4, rfl, r1, B1⟩
  obtain ⟨w2, hw2, B2, P4⟩ := dbox (r := r) (s := s) (n := q.length) (cap := c4) r1
  have Z := hide (Below.step B1 B2 (Nat.le_refl _))
  clear r1 B1 B2 HR
  by_cases he : er = 0
  · subst he
    have hc := hide (unhide hcl rfl)
    clear hcl hcl0
    obtain ⟨c0, c1, c2⟩ := P4.cells
    replace P4 := hide P4
    obtain ⟨w3, hw3, B3, b3⟩ := box (W := w2) (.cells #[.bool r, .bool s, .slice none 0 0] 33)
    have J0 := hide (show EJ w2 w3 w2.heap.size r s none 0 0 [] from ⟨B3, b3, World.ownsRow_nil _ _ _ _⟩)
    clear B3 b3
    replace hw3 := hide hw3
    generalize hn : q.length = n at *
    replace hn := hide hn
    go_wp2_with fail
    rw [unhide hw3]
    clear hw2 hw3 c0 c1 c2
    generalize w1.heap.size = b4 at *
    generalize hbb : w2.heap.size = b6 at *
    replace hbb := hide hbb
    go_loopw [7] (fun i wr => ∃ (k M : Nat) (a : Option Addr) (cap : Nat), k ≤ n ∧ M ≤ k ∧ i = .int .i64 k ∧ Hid ((nodots (q.take k)).length = M) ∧ Hid (EJ w2 wr b6 r s a M cap (nodots (q.take k)))) (fun i _ => n - (intOf i).toNat)
    case atStart => exact ⟨0, 0, none, 0, by omega, by omega, rfl, hide rfl, J0⟩
    case round =>
      obtain ⟨k, M, a, cap, hk, hMk, rfl, hM, J⟩ := hrel
      clear J0
      have B' : Below w2.heap.size w2 wr := by rw [unhide hbb]; exact (unhide J).be
      obtain ⟨x0, x1, x2⟩ := ((unhide P4).below B').cells
      obtain ⟨y0, y1, y2, -⟩ := (unhide J).cells
      by_cases hlt : k < n
      · have j0 : (0 : Int) ≤ (k : Int) := by omega
        have j1 : (k : Int) < (n : Int) := by omega
        obtain ⟨x, hx⟩ : ∃ x, q[k]? = some x := ⟨_, List.getElem?_eq_getElem (by rw [unhide hn]; exact hlt)⟩
        obtain ⟨b, off, rfl, hb, cx⟩ := ((unhide P4).below B').rw k x hx
        have ht := nodots_take hx
        by_cases hd : x = [46]
        · subst hd
          rw [if_pos rfl, List.append_nil] at ht
          replace ht := hide ht
          clear hx B' x0 x1 y0 y1 y2
          go_wp2_with fail
          exact ⟨⟨k + 1, M, a, cap, by omega, by omega, rfl, hide (by rw [unhide ht]; exact unhide hM), hide (by rw [unhide ht]; exact unhide J)⟩, by simp [intOf]; omega⟩
        · have hd2 : (x == [46]) = false := by simpa using hd
          rw [if_neg hd] at ht
          obtain ⟨a', cap', W6, run1, d0, df, J6⟩ := (unhide J).drew.more x (by omega)
          rw [← ht] at J6
          have hM2 : Hid ((nodots (q.take (k + 1))).length = M + 1) := hide (by rw [ht, List.length_append, unhide hM]; rfl)
          have hl6 : b6 < wr.heap.size := lt_of_heap (unhide J).bx
          have hl4 : b4 < wr.heap.size := lt_of_heap ((unhide P4).below B').bx
          replace J6 := hide J6
          clear hx B' ht x0 x1 y0 y1 hd
          go_wp2_with fail
          go_region_law (refine step_append_g run1 _ _ (by rfl) (by rfl) (by rfl) (by rfl) (by rfl) ?_)
          all_goals
            generalize W6.setCell ⟨b6, 2, none⟩ (.slice a' (M + 1) cap') = W7 at *
            clear run1 d0 df x2 y2 cx
            go_wp2_with fail
            go_roundw
            case rel => exact ⟨k + 1, M + 1, a', cap', by omega, by omega, by go_num, hM2, J6⟩
            case measure => simp [intOf]; omega
      · obtain rfl : k = n := by omega
        have j1 : ¬ (k : Int) < (k : Int) := by omega
        have ht : q.take k = q := by rw [← unhide hn]; exact List.take_length
        rw [ht] at hM J
        have RW := hide (RowO.of_own (unhide J).ow)
        have Z' := hide (Below.step (unhide Z) B' (Nat.le_refl _))
        have q2 : wt (nodots q) ≤ 4097 := Nat.le_trans (wt_filter _ _) p2
        have hln : nodots q = [] ↔ (nodots q).length = 0 := List.length_eq_zero_iff.symm
        rw [unhide hM] at hln
        generalize nodots q = t at *
        clear ht B' P4 Z x0 x1 p2
        by_cases hm : M = 0
        · cases r with
          | false =>
            have hc2 := unhide hc
            rw [if_pos ⟨hln.2 hm, rfl⟩] at hc2
            replace hc2 := hide hc2
            subst hm
            clear hc hln
            go_wp2_with fail
            go_ret2
            exact ⟨by rw [unhide hc2]; rfl, unhide Z'⟩
          | true =>
            have hc2 := unhide hc
            rw [if_neg (by simp)] at hc2
            replace hc2 := hide hc2
            subst hm
            clear hc hln
            go_wp2_with fail
            refine (rwr_any true s t 0 (unhide hM) a cap _ (unhide RW) (by omega)).mono ?_
            rintro e w9 ⟨rfl, B9⟩
            replace Z' := hide (Below.step (unhide Z') B9 (Nat.le_refl _))
            clear B9
            go_wp2_with fail
            go_ret2
            exact ⟨by rw [unhide hc2]; rfl, unhide Z'⟩
        · have hm2 : ¬ (M : Int) = 0 := by omega
          have hc2 := unhide hc
          rw [if_neg (by intro h; exact hm (hln.1 h.1))] at hc2
          replace hc2 := hide hc2
          clear hc hln
          go_wp2_with fail
          refine (rwr_any r s t M (unhide hM) a cap _ (unhide RW) (by omega)).mono ?_
          rintro e w9 ⟨rfl, B9⟩
          replace Z' := hide (Below.step (unhide Z') B9 (Nat.le_refl _))
          clear B9
          go_wp2_with fail
          go_ret2
          exact ⟨by rw [unhide hc2]; rfl, unhide Z'⟩
  · have hc := hide (unhide hcl0 he)
    clear hcl hcl0 P4
    go_wp2_with fail
    go_ret2
    exact ⟨by rw [unhide hc]; rfl, unhide Z⟩
end Go.Proofs.Ytnhddendkolfeaa
