/-
  The walk of MountNumbers.
-/
import Derived.Test.YthmpplcaomgdoaaMKnown
import Derived.Test.YthmpplcaomgdoaaMSame
namespace Go.Proofs.Ythmpplcaomgdoaa.Mt
open Go.RowKit
attribute [local go_sem ↓] Go.wp_at_zero Go.wp_at_succ

/-- The table behind i of the five. -/
def tl (i : Nat) : T := ⟨1, 2 + i, [⟨1, 5, 0, 2⟩, ⟨2, 6, 1, 5⟩] ++ (List.range i).map fun j => ⟨3 + j, 3, 0, 10 + j⟩⟩
theorem tl_bind : ∀ i : Nat, i < 5 → (tl i).bindN 0 (10 + i) = 3 + i ∧ bindE (tl i).es 0 (10 + i) = 0 ∧ (tl i).bind 0 (10 + i) 3 = tl (i + 1)
  | 0, _ => ⟨rfl, rfl, rfl⟩
  | 1, _ => ⟨rfl, rfl, rfl⟩
  | 2, _ => ⟨rfl, rfl, rfl⟩
  | 3, _ => ⟨rfl, rfl, rfl⟩
  | 4, _ => ⟨rfl, rfl, rfl⟩
  | n + 5, h => by omega
theorem fm_blk {base b : Nat} {w w' : World} (h : Fm base b w w') {k : Nat} {cs : Array Value} {ty : TypeId} (hk : w.heap[k]? = some (.cells cs ty)) (hb : k ≠ b) (ht : ty ≠ 59) : w'.heap[k]? = some (.cells cs ty) :=
  h.blk k _ hk hb (by intro cur hc; simp at hc; exact ht hc.2)
/-- What lies while the law goes on: the table, the place d, all else. -/
structure NS (B : Int) (base : Nat) (w W : World) (D : Nat) (t : T) : Prop where
  q : Tq B base W base t
  d : W.heap[D]? = some (.cells #[I 2, I 6] 29)
  be : Below base w W
  bs : base ≤ W.heap.size
  dn : base < D
theorem NS.fm {B B' : Int} {base : Nat} {w W W' : World} {D : Nat} {t t' : T} (h : NS B base w W D t) (q : Tq B' base W' base t') (f : Fm base base W W') : NS B' base w W' D t' :=
  ⟨q, fm_blk f h.d (by have := h.dn; omega) (by decide), h.be.trans f.below, Nat.le_trans h.bs f.size, h.dn⟩
theorem NS.below {B : Int} {base : Nat} {w W W' : World} {D : Nat} {t : T} (h : NS B base w W D t) (g : Below W.heap.size W W') : NS B base w W' D t :=
  ⟨h.q.below g, (g.block D (lt_of_heap h.d)).trans h.d, h.be.trans (g.mono h.bs), Nat.le_trans h.bs g.size, h.dn⟩
set_option maxRecDepth 100000 in
set_option maxHeartbeats 4000000 in
theorem numbers_walk (w : World) : Calls Try.prog 3 #[] w fun e w' => e = .returned (.bool true) ∧ Below w.heap.size w w' := by
  go_enter Try.func3, Try.ntmps3
  go_wp2_with fail
  refine (new_Q 1 w).mono ?_
  rintro e w1 ⟨rfl, h1, b1⟩
  have H1 := hide h1
  have B1 := hide b1
  clear h1 b1
  go_wp2_with fail
  refine (unbind_R (unhide H1) 0 1 ⟨1, 0, []⟩ (by rfl) (by rfl)).mono ?_
  rintro e w2 ⟨rfl, h2, b2⟩
  have H2 := hide h2
  have B2 := hide ((unhide B1).trans b2.below)
  clear h2 b2 H1 B1
  go_wp2_with fail
  refine (bind_R (unhide H2) (by decide) 0 2 5 1 0 ⟨1, 1, [⟨1, 5, 0, 2⟩]⟩ (by rfl) (by rfl) (by rfl)).mono ?_
  rintro e w3 ⟨rfl, h2, b2⟩
  have H3 := hide h2
  have B3 := hide ((unhide B2).trans b2.below)
  clear h2 b2 H2 B2
  go_wp2_with fail
  refine (bind_R (unhide H3) (by decide) 1 5 6 2 0 (tl 0) (by rfl) (by rfl) (by rfl)).mono ?_
  rintro e w4 ⟨rfl, h2, b2⟩
  have H4 := hide h2
  have B4 := hide ((unhide B3).trans b2.below)
  clear h2 b2 H3 B3
  go_wp2_with fail
  refine (unbind_R (unhide H4) 1 15 (tl 0) (by rfl) (by rfl)).mono ?_
  rintro e w5 ⟨rfl, h2, b2⟩
  have H5 := hide h2
  have B5 := hide ((unhide B4).trans b2.below)
  clear h2 b2 H4 B4
  go_wp2_with fail
  refine (down_R (unhide H5) 0 2 2 6 (by rfl)).mono ?_
  rintro e v1 ⟨rfl, h2, b2⟩
  have hbs : w.heap.size ≤ v1.heap.size := ((unhide B5).trans (b2.mono (unhide B5).size)).size
  have hq := h2.below (below_alloc v1 (.cells #[I 2, I 6] 29))
  have hb := ((unhide B5).trans (b2.mono (unhide B5).size)).alloc hbs (.cells #[I 2, I 6] 29)
  have N0 : NS _ w.heap.size w (v1.alloc (.cells #[I 2, I 6] 29)) v1.heap.size (tl 0) := ⟨hq, putAll _ _ rfl, hb, by simp; omega, by have := h2.ls.lt; omega⟩
  have HN := hide N0
  clear h2 b2 H5 B5 hq hb N0 hbs
  go_wp2_with fail
  refine (bind_R (unhide HN).q (by decide) 9 0 1 0 1 (tl 0) (by rfl) (by rfl) (by rfl)).mono ?_
  rintro e v2 ⟨rfl, h2, b2⟩
  replace HN := hide ((unhide HN).fm h2 b2)
  clear h2 b2
  go_wp2_with fail
  refine (root_R (unhide HN).q 9 0 false (by rfl) (by rfl)).mono ?_
  rintro e v3 ⟨rfl, h2, b2⟩
  replace HN := hide ((unhide HN).below b2)
  clear h2 b2
  go_wp2_with fail
  refine (root_R (unhide HN).q 2 6 true (by rfl) (by rfl)).mono ?_
  rintro e v4 ⟨rfl, h2, b2⟩
  replace HN := hide ((unhide HN).below b2)
  clear h2 b2
  go_wp2_with fail
  generalize hbase : w.heap.size = base at *
  go_loopw [11] (fun v wr => ∃ k : Nat, v = I k ∧ k ≤ 5 ∧ NS (3 + k) base w wr v1.heap.size (tl k)) (fun v _ => 5 - (intOf v).toNat)
  case atStart => exact ⟨0, rfl, by omega, unhide HN⟩
  case round =>
    clear HN
    obtain ⟨k, rfl, hk, N⟩ := hrel
    by_cases hk5 : k < 5
    · obtain ⟨p1, p2, p3⟩ := tl_bind k hk5
      have HC := hide (bind_R N.q (by omega) 0 (10 + k) 3 _ _ _ p1 p2 p3)
      have HN := hide N
      have j1 : (k : Int) < 5 := by omega
      clear N p1 p2 p3
      go_wp2_with fail
      refine (unhide HC).mono ?_
      rintro e u1 ⟨rfl, h2, b2⟩
      have HN1 := hide ((unhide HN).fm h2 b2)
      clear h2 b2 HC HN
      go_wp2_with fail
      go_roundw
      case rel => exact ⟨k + 1, by go_num, by omega, by rw [show (3 : Int) + (k + 1 : Nat) = 3 + k + 1 by omega]; exact unhide HN1⟩
      case measure => simp [intOf]; omega
    · obtain rfl : k = 5 := by omega
      have HN := hide N
      clear N hk5 hk
      go_wp2_with fail
      refine (bind_R (unhide HN).q (by decide) 0 30 3 0 13 (tl 5) (by rfl) (by rfl) (by rfl)).mono ?_
      rintro e u1 ⟨rfl, h2, b2⟩
      replace HN := hide ((unhide HN).fm h2 b2)
      clear h2 b2
      go_wp2_with fail
      refine (unbind_R (unhide HN).q 2 0 ((tl 5).unbind 2) (by rfl) (by rfl)).mono ?_
      rintro e u2 ⟨rfl, h2, b2⟩
      replace HN := hide ((unhide HN).fm h2 b2)
      clear h2 b2
      go_wp2_with fail
      refine (bind_R (unhide HN).q (by decide) 0 30 3 8 0 (((tl 5).unbind 2).bind 0 30 3) (by rfl) (by rfl) (by rfl)).mono ?_
      rintro e u3 ⟨rfl, h2, b2⟩
      replace HN := hide ((unhide HN).fm h2 b2)
      clear h2 b2
      obtain ⟨c0, c1⟩ := cells2 (unhide HN).d
      go_wp2_with fail
      refine (covered_R (unhide HN).q 30 true (by rfl)).mono ?_
      rintro e u4 ⟨rfl, h2, b2⟩
      replace HN := hide ((unhide HN).below b2)
      clear h2 b2
      go_wp2_with fail
      refine (covered_R (unhide HN).q 31 false (by rfl)).mono ?_
      rintro e u5 ⟨rfl, h2, b2⟩
      replace HN := hide ((unhide HN).below b2)
      clear h2 b2
      go_wp2_with fail
      refine (above_Q (unhide HN).q 0).mono ?_
      rintro e u6 ⟨v, rfl, own, b2⟩
      obtain ⟨a, cap, rfl, S1⟩ := Sl.of own
      rw [show abv (((tl 5).unbind 2).bind 0 30 3).es 0 = [1, 3, 4, 5, 6, 7, 8] from rfl] at S1 ⊢
      have N6 := (unhide HN).below b2
      have g6 : (u6.alloc (.cells #[I 1, I 3, I 4, I 5, I 6, I 7, I 8] 3)).heap[u6.heap.size]? = some (.cells #[I 1, I 3, I 4, I 5, I 6, I 7, I 8] 3) := putAll _ _ rfl
      have S2 : Sl (u6.alloc (.cells #[I 1, I 3, I 4, I 5, I 6, I 7, I 8] 3)) (some ⟨u6.heap.size, 0, none⟩) [1, 3, 4, 5, 6, 7, 8] := ⟨fun i x hi => ⟨u6.heap.size, rfl, by
        rw [cell_of g6]
        match i, hi with
        | 0, hi => simp at hi; subst hi; rfl
        | 1, hi => simp at hi; subst hi; rfl
        | 2, hi => simp at hi; subst hi; rfl
        | 3, hi => simp at hi; subst hi; rfl
        | 4, hi => simp at hi; subst hi; rfl
        | 5, hi => simp at hi; subst hi; rfl
        | 6, hi => simp at hi; subst hi; rfl
        | n + 7, hi => simp at hi⟩⟩
      have HS := hide (same_any a (some ⟨u6.heap.size, 0, none⟩) cap 7 _ _ _ (S1.below (below_alloc u6 (.cells #[I 1, I 3, I 4, I 5, I 6, I 7, I 8] 3))) S2 (by simp))
      have HN6 := hide (N6.below (below_alloc u6 (.cells #[I 1, I 3, I 4, I 5, I 6, I 7, I 8] 3)))
      clear own S1 S2 b2 N6 g6 HN c0 c1
      simp only [List.length_cons, List.length_nil, Nat.reduceAdd]
      go_wp2_with fail
      refine (unhide HS).mono ?_
      rintro e u7 ⟨rfl, b2⟩
      have HN7 := hide ((unhide HN6).below b2)
      clear b2 HS HN6
      simp only [decide_true]
      go_wp2_with fail
      refine (known_any u7).mono ?_
      rintro e u8 ⟨rfl, b2⟩
      have HN8 := hide ((unhide HN7).below b2)
      clear b2 HN7
      go_wp2_with fail
      go_ret
      exact ⟨rfl, by rw [hbase]; exact (unhide HN8).be⟩
end Go.Proofs.Ythmpplcaomgdoaa.Mt
