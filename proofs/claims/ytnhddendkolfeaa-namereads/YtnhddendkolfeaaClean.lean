/-
  The contracts of DeleteFunc at the parts of a path, and of Clean.
-/
import Derived.Test.YtnhddendkolfeaaReadY
import Derived.Test.YtnhddendkolfeaaWrite
import Derived.Sort.OwnSorted
namespace Go.Proofs.Ytnhddendkolfeaa
open Go.RowKit Go.Sort
attribute [local go_sem ↓] Go.wp_at_zero Go.wp_at_succ

set_option maxHeartbeats 1000000 in
theorem here_any (l : List UInt8) (w : World) : Calls Try.prog 29 #[S l] w fun e w' => e = .returned (.bool (l == [46])) ∧ ∃ n, w' = w.drewN n := by
  go_enter Try.func29, Try.ntmps29
  go_wp2
  all_goals (go_ret; refine ⟨?_, 0, rfl⟩; first | rfl | simp_all)
set_option maxHeartbeats 1000000 in
theorem dele_none (a : Option Addr) (cap : Nat) (f : Value) (w : World) : Calls Try.prog 28 #[.slice a 0 cap, f] w fun e w' => e = .returned (.slice a 0 cap) ∧ w' = w := by
  go_enter Try.func28, Try.ntmps28
  go_wp2_with (go_at_call 38; refine (Try.slices_IndexFunc_empty (α := Nat) _ _ _ _).mono ?_; rintro e w' ⟨rfl, rfl⟩)
  go_ret
  exact ⟨rfl, rfl⟩
theorem own_short {W : World} {base g n k cap : Nat} {xs ys : List Value} (h : W.ownsRow base 9 1 (.slice (some ⟨g, 0, none⟩) n cap) n (xs ++ ys)) (hk : xs.length = k) : W.ownsRow base 9 1 (.slice (some ⟨g, 0, none⟩) k cap) k xs := by
  obtain ⟨h0, ⟨h1, _⟩ | ⟨g', cap', cur, h1, h2, h3, h4, h5, h6, h7⟩⟩ := h
  · simp at h1
  · simp only [Value.slice.injEq, Option.some.injEq, Addr.mk.injEq, and_true] at h1
    obtain ⟨rfl, -, rfl⟩ := h1
    simp only [List.length_append, Nat.mul_one] at h0 h7
    refine ⟨by rw [Nat.mul_one]; exact hk, .inr ⟨g, cap, cur, rfl, h2, h3, by omega, h5, h6, ?_⟩⟩
    rw [Nat.mul_one]
    have h8 := congrArg (List.take k) h7
    rw [List.take_take, Nat.min_eq_left (by omega), List.take_append_of_le_length (by omega), ← hk, List.take_length] at h8
    rw [← hk]; exact h8
theorem grow_none (W : World) : grow W #[] = W := by simp [grow]
theorem dele_own {base g cap n : Nat} {q : List (List UInt8)} {w : World} (own : w.ownsRow base 9 1 (.slice (some ⟨g, 0, none⟩) n cap) n (strs q)) (hq : q.length ≤ 100000) :
    Calls Try.prog 28 #[.slice (some ⟨g, 0, none⟩) n cap, .func (.func 29) #[] #[]] w fun e w' => e = .returned (.slice (some ⟨g, 0, none⟩) (nodots q).length cap) ∧ w'.ownsRow base 9 1 (.slice (some ⟨g, 0, none⟩) (nodots q).length cap) (nodots q).length (strs (nodots q)) ∧ w.grownBy w' (some g) := by
  obtain ⟨h0, ⟨h1, _⟩ | ⟨g', cap', cur, h1, h2, h3, h4, h5, h6, h7⟩⟩ := own
  · simp at h1
  · simp only [Value.slice.injEq, Option.some.injEq, Addr.mk.injEq, and_true] at h1
    obtain ⟨rfl, -, rfl⟩ := h1
    simp at h0
    subst h0
    have hH : Holds encStr w g 0 q.toArray := holds_of_block h3 (by simpa [encStr] using h7)
    have hg : ∀ W x, Calls Try.prog 29 (#[encStr x] ++ #[]) W fun e w' => e = .returned (.bool (x == [46])) ∧ ∃ n, w' = W.drewN n := fun W x => here_any x W
    have hc := Try.slices_DeleteFunc (α := List UInt8) encStr (fun _ => rfl) (fun x => x == [46]) 29 #[] (enters_of Try.func29 (by kernel_rfl) rfl) [] (fun w => by kernel_rfl) g 0 cap q.toArray w (fun W x _ => hg W x) (fun n os dk x _ => hg _ x) hH (by simp; omega) (by simpa using h4)
    have hf : (q.toArray.toList.filter fun x => !(x == [46])) = nodots q := by
      unfold nodots
      congr 1
      funext x
      by_cases hx : x = [46] <;> simp [hx]
    rw [hf] at hc
    have hsz : q.toArray.size = q.length := by simp
    rw [hsz] at hc
    refine hc.mono ?_
    rintro e w' ⟨rfl, n, rfl⟩
    have hle : (nodots q).length ≤ q.length := List.length_filter_le _ _
    have ho := ownsRow_sorted (n := n) (os := #[]) (base := base) (ts := nodots q ++ List.replicate (q.length - (nodots q).length) []) (ss := q) (by simp; omega) h2 h3 h4 h5 (by simpa using h6)
    rw [grow_none, List.map_append] at ho
    have hgr := grownBy_sorted (w := w) (g := g) (n := n) (os := #[]) (nodots q ++ List.replicate (q.length - (nodots q).length) []).toArray
    rw [grow_none] at hgr
    exact ⟨rfl, own_short ho (by simp), hgr⟩
theorem dele_any {base n cap : Nat} {a : Option Addr} {q : List (List UInt8)} {w : World} (own : w.ownsRow base 9 1 (.slice a n cap) n (strs q)) (hq : q.length ≤ 100000) :
    Calls Try.prog 28 #[.slice a n cap, .func (.func 29) #[] #[]] w fun e w' => e = .returned (.slice a (nodots q).length cap) ∧ w'.ownsRow base 9 1 (.slice a (nodots q).length cap) (nodots q).length (strs (nodots q)) ∧ w.grownBy w' (Value.slice a n cap).ownBlock := by
  obtain ⟨g, ⟨rfl, rfl, rfl⟩ | rfl⟩ := own_addr own
  · have h0 := own.1
    simp at h0
    subst h0
    refine (dele_none none 0 _ w).mono ?_
    rintro e w' ⟨rfl, rfl⟩
    exact ⟨rfl, own, rfl, rfl, rfl, Nat.le_refl _, fun _ _ _ => rfl⟩
  · exact dele_own own hq
/-- What lies in Clean behind Read: the path in its box. -/
structure CJ (w W : World) (b h : Nat) (r s : Bool) (a : Option Addr) (n cap : Nat) (q : List (List UInt8)) : Prop where
  be : Below h w W
  bx : W.heap[b]? = some (.cells #[.bool r, .bool s, .slice a n cap] 24)
  hb : h ≤ b
  ow : W.ownsRow h 9 1 (.slice a n cap) n (strs q)
theorem CJ.cells {w W : World} {b h : Nat} {r s : Bool} {a : Option Addr} {n cap : Nat} {q : List (List UInt8)} (J : CJ w W b h r s a n cap q) : W.cell? ⟨b, 0, none⟩ = some (.bool r) ∧ W.cell? ⟨b, 1, none⟩ = some (.bool s) ∧ W.cell? ⟨b, 2, none⟩ = some (.slice a n cap) ∧ W.frozen? ⟨b, 2, none⟩ = false := by
  refine ⟨?_, ?_, ?_, frozen_of J.bx 2⟩ <;> rw [cell_of J.bx] <;> rfl
/-- The parts without dots lie in the box's row, or will when they are stored. -/
theorem CJ.dele {w W : World} {b h : Nat} {r s : Bool} {a : Option Addr} {n cap : Nat} {q : List (List UInt8)} (J : CJ w W b h r s a n cap q) (hq : q.length ≤ 100000) :
    Calls Try.prog 28 #[.slice a n cap, .func (.func 29) #[] #[]] W fun e w' => e = .returned (.slice a (nodots q).length cap) ∧ w'.cell? ⟨b, 0, none⟩ = some (.bool r) ∧ w'.cell? ⟨b, 1, none⟩ = some (.bool s) ∧ w'.cell? ⟨b, 2, none⟩ = some (.slice a n cap) ∧ w'.frozen? ⟨b, 2, none⟩ = false ∧ CJ w (w'.setCell ⟨b, 2, none⟩ (.slice a (nodots q).length cap)) b h r s a (nodots q).length cap (nodots q) := by
  refine (dele_any J.ow hq).mono ?_
  rintro e w' ⟨rfl, own, hg⟩
  have k : w'.heap[b]? = some (.cells #[.bool r, .bool s, .slice a n cap] 24) := (hg.block b (lt_of_heap J.bx) (own_ne J.ow J.bx (by simp))).trans J.bx
  have hs : h ≤ W.heap.size := by have := lt_of_heap J.bx; have := J.hb; omega
  refine ⟨rfl, by rw [cell_of k]; rfl, by rw [cell_of k]; rfl, by rw [cell_of k]; rfl, frozen_of k 2, (below_grown J.be J.ow hg hs).setCell (p := ⟨b, 2, none⟩) J.hb _, ?_, J.hb, ?_⟩
  · rw [heap_set k]; simp
  · refine own_keep own fun j cur hc => Below.heap_setCell _ _ _ _ ?_
    rintro rfl
    rw [k] at hc
    simp at hc
theorem ps_small (l : List UInt8) : (ps l).length ≤ 4097 ∧ wt (ps l) ≤ 4097 := by
  unfold ps
  split
  · rename_i h
    obtain ⟨h0, h1, _⟩ := err_ok h
    have h2 := parts_le l
    have h3 := wt_parts _ l (Nat.le_refl _)
    have h4 : ende l ≤ 1 := by unfold ende; split <;> omega
    omega
  · simp [wt]
set_option maxRecDepth 100000 in
set_option maxHeartbeats 1000000 in
theorem clean_any (l : List UInt8) (w : World) : Calls Try.prog 11 #[S l] w fun e w' => e = .returned (.tuple #[S (cl l), .int .i64 (err l)]) ∧ Below w.heap.size w w' := by
  have HR := hide (read_any l w)
  obtain ⟨p1, p2⟩ := ps_small l
  have hcl : Hid (err l = 0 → cl l = if nodots (ps l) = [] ∧ rt l = false then [46] else pw (rt l) (sl l) (nodots (ps l))) := hide fun h => by simp [cl, ps, h]
  have hcl0 : Hid (¬ err l = 0 → cl l = []) := hide fun h => by simp [cl, h]
  generalize err l = er at *
  generalize cl l = out at *
  generalize rt l = r at *
  generalize sl l = s at *
  generalize ps l = q at *
  go_enter Try.func11, Try.ntmps11
  go_wp2_with fail
  refine (unhide HR).mono ?_
  rintro e w1 ⟨v, rfl, own, hB⟩
  obtain ⟨a, cap, rfl⟩ := own_form own
  have hs := hB.size
  have own2 := own_keep (W' := w1.alloc (.cells #[.bool r, .bool s, .slice a q.length cap] 24)) own (fun k cur hc => Below.heap_alloc w1 _ _ (lt_of_heap hc))
  have J0 : CJ w (w1.alloc (.cells #[.bool r, .bool s, .slice a q.length cap] 24)) w1.heap.size w.heap.size r s a q.length cap q := ⟨hB.alloc hs _, putAll _ _ rfl, hs, own2⟩
  clear own own2 hB hs
  by_cases he : er = 0
  · subst he
    have hc := unhide hcl rfl
    clear hcl hcl0 HR
    obtain ⟨w2, hw2⟩ : ∃ w2, w1.alloc (.cells #[.bool r, .bool s, .slice a q.length cap] 24) = w2 := ⟨_, rfl⟩
    rw [hw2] at J0
    replace hw2 := hide hw2
    replace hc := hide hc
    replace J0 := hide J0
    generalize hb : w1.heap.size = b at *
    go_wp2_with fail
    rw [unhide hw2]
    refine ((unhide J0).dele (by omega)).mono ?_
    rintro e w3 ⟨rfl, c0, c1, c2, f2, J3⟩
    have q2 : wt (nodots q) ≤ 4097 := Nat.le_trans (wt_filter _ _) p2
    generalize nodots q = t at *
    clear J0 p1 p2
    have hrow := hide (RowO.of_own J3.ow)
    replace J3 := hide J3
    replace hb := hide hb
    have hln : t = [] ↔ t.length = 0 := List.length_eq_zero_iff.symm
    generalize hlen : t.length = m at *
    replace hlen := hide hlen
    by_cases hm : m = 0
    · cases r with
      | false =>
        have hc2 := unhide hc
        rw [if_pos ⟨hln.2 hm, rfl⟩] at hc2
        replace hc2 := hide hc2
        subst hm
        clear hc hln
        go_wp2_with fail
        go_ret2
        exact ⟨by rw [unhide hc2]; rfl, (unhide J3).be⟩
      | true =>
        have hc2 := unhide hc
        rw [if_neg (by simp)] at hc2
        replace hc2 := hide hc2
        subst hm
        clear hc hln
        go_wp2_with fail
        refine (wr_any true s t 0 (unhide hlen) a cap _ (unhide hrow) (by omega)).mono ?_
        rintro e w4 ⟨rfl, B4⟩
        replace B4 := hide B4
        go_wp2_with fail
        go_ret2
        exact ⟨by rw [unhide hc2]; rfl, (unhide J3).be.trans ((unhide B4).mono (unhide J3).be.size)⟩
    · have hm2 : ¬ (m : Int) = 0 := by omega
      have hc2 := unhide hc
      rw [if_neg (by intro h; exact hm (hln.1 h.1))] at hc2
      replace hc2 := hide hc2
      clear hc hln
      go_wp2_with fail
      refine (wr_any r s t m (unhide hlen) a cap _ (unhide hrow) (by omega)).mono ?_
      rintro e w4 ⟨rfl, B4⟩
      replace B4 := hide B4
      go_wp2_with fail
      go_ret2
      exact ⟨by rw [unhide hc2]; rfl, (unhide J3).be.trans ((unhide B4).mono (unhide J3).be.size)⟩
  · have hc := hide (unhide hcl0 he)
    have hb := hide J0.be
    clear hcl hcl0 HR J0
    go_wp2_with fail
    go_ret2
    exact ⟨by rw [unhide hc]; rfl, unhide hb⟩
end Go.Proofs.Ytnhddendkolfeaa
