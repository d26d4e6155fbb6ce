/-
  The document's own reader: take.
-/
import Derived.Test.YtcopjhidijhlaaaCDecA
import Derived.Test.YtcopjhidijhlaaaSRoom
namespace Go.Proofs.Ytcopjhidijhlaaa.Cl
open Go.RowKit
attribute [local go_sem ↓] Go.wp_at_zero Go.wp_at_succ

/-- The document's reader in block r: bytes b, of which p are taken; it stands for what q tells. -/
structure Er (W : World) (B r : Nat) (a : Option Addr) (cap : Nat) (b : List UInt8) (p : Nat) (q : Rs) : Prop where
  h : W.heap[r]? = some (.cells #[.slice a b.length cap, I (p : Nat), .bool (!q.2)] 72)
  by' : By W B a b
  hB : B ≤ r
  hc : b.length ≤ cap
  hm : cap ≤ maxLen
  hn : a = none → cap = 0
  hp : p ≤ b.length
  hq : q.2 = false → q.1 = b.drop p
theorem Er.cut {W : World} {B r : Nat} {a : Option Addr} {cap : Nat} {b : List UInt8} {p : Nat} {q q' : Rs} (E : Er W B r a cap b p q) (h : q.2 = true) (h' : q'.2 = true) : Er W B r a cap b p q' :=
  ⟨by rw [h', ← h]; exact E.h, E.by', E.hB, E.hc, E.hm, E.hn, E.hp, fun e => by rw [h'] at e; cases e⟩
theorem Er.keep {W W' : World} {B r : Nat} {a : Option Addr} {cap : Nat} {b : List UInt8} {p : Nat} {q : Rs} (E : Er W B r a cap b p q) (g : Below W.heap.size W W') : Er W' B r a cap b p q :=
  ⟨(g.block _ (lt_of_heap E.h)).trans E.h, E.by'.below (g.mono (Nat.le_trans E.hB (Nat.le_of_lt (lt_of_heap E.h)))), E.hB, E.hc, E.hm, E.hn, E.hp, E.hq⟩
theorem Gr.below' {r : Nat} {u w : World} (h : Below u.heap.size u w) : Gr r u w := ⟨h.os, h.tape, h.output, h.size, fun k hk _ => h.block k hk⟩
set_option maxRecDepth 100000 in
set_option maxHeartbeats 1000000 in
theorem etake_no (B r : Nat) (a : Option Addr) (cap : Nat) (b : List UInt8) (p : Nat) (q : Rs) (s : Nat) (hs2 : s ≤ 100000) (W : World) (E : Er W B r a cap b p q) (hno : q.2 = true ∨ b.length - p < s) :
    Calls Try.prog 37 #[Pt r 0, I s] W fun e W' => (∃ g, e = .returned (.slice (some ⟨g, 0, none⟩) 0 0)) ∧ Er W' B r a cap b p ([], true) ∧ Gr r W W' := by
  obtain ⟨c0, c1, c2⟩ : W.cell? ⟨r, 0, none⟩ = some (.slice a b.length cap) ∧ W.cell? ⟨r, 1, none⟩ = some (I (p : Nat)) ∧ W.cell? ⟨r, 2, none⟩ = some (.bool (!q.2)) := ⟨by rw [cell_of E.h]; rfl, by rw [cell_of E.h]; rfl, by rw [cell_of E.h]; rfl⟩
  have f2 : W.frozen? ⟨r, 2, none⟩ = false := frozen_of E.h 2
  have HF := hide (show ∀ m, Er (((W.drewN m).setCell ⟨r, 2, none⟩ (.bool false)).alloc (.cells #[] 5)) B r a cap b p ([], true) ∧ Gr r W (((W.drewN m).setCell ⟨r, 2, none⟩ (.bool false)).alloc (.cells #[] 5)) from fun m => by
    have hd : (W.drewN m).heap[r]? = _ := E.h
    have q0 := heap_set hd 2 (.bool false)
    have g1 : Gr r W (W.drewN m) := ⟨rfl, rfl, rfl, Nat.le_refl _, fun _ _ _ => rfl⟩
    have g2 := (g1.trans (Gr.set r 2 (W.drewN m) (.bool false))).trans (Gr.below' ((Below.refl _ _).alloc (Nat.le_refl _) (.cells #[] 5)))
    have hle : B ≤ W.heap.size := by have := lt_of_heap E.h; have := E.hB; omega
    exact ⟨⟨by
      rw [Below.heap_alloc _ _ _ (lt_of_heap q0), q0]; simp, E.by'.below (g2.below E.hB hle), E.hB, E.hc, E.hm, E.hn, E.hp, fun e => by cases e⟩, g2⟩)
  have hmk : ∀ w : World, (Instr.makeSlice 22 (.int .i64 0) (.int .i64 0)).run Try.prog w = .ok (.slice (some ⟨w.heap.size, 0, none⟩) 0 0) (w.alloc (.cells #[] 5)) := fun w => make_w 0 (by omega) w
  have hm := E.hm
  have hmx : maxLen ≤ 9223372036854775807 := by decide
  have hcc := E.hc
  have hp := E.hp
  have j2 : (0 : Int) ≤ (s : Int) := by omega
  have j3 : (p : Int) ≤ (b.length : Int) := by omega
  have j4 : (b.length : Int) ≤ 9223372036854775807 := by omega
  have j5 : (0 : Int) ≤ (p : Int) := by omega
  generalize b.length = n at *
  clear E
  cases hq : q.2 with
  | true =>
    rw [hq] at c2
    simp only [Bool.not_true] at c2
    clear hno hq hm hmx hcc hp
    go_enter Try.func37, Try.ntmps37
    go_wp2_with fail
    go_quiet (fail)
    go_wp2_with fail
    go_ret
    exact ⟨⟨_, rfl⟩, (unhide HF _).1, (unhide HF _).2⟩
  | false =>
    rw [hq] at c2 hno
    simp only [Bool.not_false] at c2
    have hlt : n - p < s := by simpa using hno
    have j1 : (n : Int) - (p : Int) < (s : Int) := by omega
    clear hno hq hm hmx hcc hp hlt
    go_enter Try.func37, Try.ntmps37
    go_wp2_with fail
    go_quiet (fail)
    go_wp2_with fail
    go_ret
    exact ⟨⟨_, rfl⟩, (unhide HF _).1, (unhide HF _).2⟩
set_option maxRecDepth 100000 in
set_option maxHeartbeats 1000000 in
theorem etake_yes (B r : Nat) (a : Option Addr) (cap : Nat) (b : List UInt8) (p : Nat) (q : Rs) (s : Nat) (hs2 : s ≤ 100000) (W : World) (E : Er W B r a cap b p q) (hok : q.2 = false) (hyes : s ≤ b.length - p) :
    Calls Try.prog 37 #[Pt r 0, I s] W fun e W' => (∃ a1, (∃ c1, e = .returned (.slice a1 s c1)) ∧ By W' B a1 ((b.drop p).take s)) ∧ Er W' B r a cap b (p + s) (b.drop (p + s), false) ∧ Gr r W W' := by
  have c0 : W.cell? ⟨r, 0, none⟩ = some (.slice a b.length cap) := by rw [cell_of E.h]; rfl
  have c1 : W.cell? ⟨r, 1, none⟩ = some (I (p : Nat)) := by rw [cell_of E.h]; rfl
  have c2 : W.cell? ⟨r, 2, none⟩ = some (.bool true) := by rw [cell_of E.h, hok]; rfl
  have f1 : W.frozen? ⟨r, 1, none⟩ = false := frozen_of E.h 1
  have HF := hide (show ∀ m, Er ((W.drewN m).setCell ⟨r, 1, none⟩ (I ((p : Int) + (s : Int)))) B r a cap b (p + s) (b.drop (p + s), false) ∧ Gr r W ((W.drewN m).setCell ⟨r, 1, none⟩ (I ((p : Int) + (s : Int)))) from fun m => by
    have hd : (W.drewN m).heap[r]? = _ := E.h
    have q0 := heap_set hd 1 (I ((p : Int) + (s : Int)))
    have g1 : Gr r W (W.drewN m) := ⟨rfl, rfl, rfl, Nat.le_refl _, fun _ _ _ => rfl⟩
    have g2 := g1.trans (Gr.set r 1 (W.drewN m) (I ((p : Int) + (s : Int))))
    have hle : B ≤ W.heap.size := by have := lt_of_heap E.h; have := E.hB; omega
    exact ⟨⟨by rw [q0, hok]; simp, E.by'.below (g2.below E.hB hle), E.hB, E.hc, E.hm, E.hn, by have := E.hp; omega, fun _ => rfl⟩, g2⟩)
  have hm := E.hm
  have hmx : maxLen ≤ 9223372036854775807 := by decide
  have hcc := E.hc
  have hp := E.hp
  have j0 : (0 : Int) ≤ (p : Int) := by omega
  have j1 : ¬ (b.length : Int) - (p : Int) < (s : Int) := by omega
  have j2 : (0 : Int) ≤ (s : Int) := by omega
  have j3 : (p : Int) + (s : Int) ≤ (cap : Int) := by omega
  have j4 : (cap : Int) ≤ 9223372036854775807 := by omega
  have j6 : p + s ≤ cap := by omega
  have j7 : (p : Int) ≤ (p : Int) + (s : Int) := by omega
  have j8 : (b.length : Int) ≤ (cap : Int) := by omega
  have hle : B ≤ W.heap.size := by have := lt_of_heap E.h; have := E.hB; omega
  cases a with
  | none =>
    have hc0 := E.hn rfl
    obtain rfl : b = [] := List.eq_nil_of_length_eq_zero (by omega)
    simp only [List.length_nil] at *
    obtain rfl : p = 0 := by omega
    obtain rfl : s = 0 := by omega
    subst hc0
    clear E hm hmx hcc hp j0 j1 j2 j3 j4 j6 j7 j8 hyes hok
    go_enter Try.func37, Try.ntmps37
    go_wp2_with fail
    go_quiet (fail)
    go_wp2_with fail
    go_quiet (fail)
    go_wp2_with fail
    go_ret
    exact ⟨⟨_, ⟨_, rfl⟩, By.nil _ _ _⟩, (unhide HF _).1, (unhide HF _).2⟩
  | some ad =>
    by_cases hs0 : s = 0
    · have hB0 : ∀ W' a1, By W' B a1 ((b.drop p).take s) := fun W' a1 => by rw [hs0]; exact By.nil _ _ _
      have HB := hide hB0
      clear E hB0 hs0
      generalize b.length = n at *
      go_enter Try.func37, Try.ntmps37
      go_wp2_with fail
      go_quiet (fail)
      go_wp2_with fail
      go_quiet (fail)
      go_wp2_with fail
      all_goals go_ret
      all_goals first | exact ⟨⟨_, ⟨_, (by simp; exact ⟨rfl, rfl⟩)⟩, unhide HB _ _⟩, (unhide HF _).1, (unhide HF _).2⟩ | (have HF2 := unhide HF; rw [‹cap = p›] at HF2; exact ⟨⟨_, ⟨_, (by simp; exact ⟨rfl, rfl⟩)⟩, unhide HB _ _⟩, (HF2 _).1, (HF2 _).2⟩)
    · obtain ⟨t, rfl⟩ : ∃ t, s = t + 1 := ⟨s - 1, by omega⟩
      obtain ⟨x, hx⟩ : ∃ x, b[p]? = some x := ⟨_, List.getElem?_eq_getElem (by omega)⟩
      obtain ⟨g, off, e1, -, -⟩ := E.by' p x hx
      simp at e1
      subst e1
      have HB := hide (show ∀ W', Below B W W' → By W' B (some ⟨g, off + p, none⟩) ((b.drop p).take (t + 1)) from fun W' k => by
        refine By.take (fun j c hj => ?_) _
        rw [List.getElem?_drop] at hj
        obtain ⟨b', o', e1, e2, e3⟩ := (E.by'.below k) _ c hj
        simp at e1
        obtain ⟨rfl, rfl⟩ := e1
        exact ⟨g, _, rfl, e2, by rw [Nat.add_assoc]; exact e3⟩)
      have hB := E.hB
      have j9 : ¬ cap = p := by omega
      clear E hx
      generalize hst : t + 1 = s at *
      replace hst := hide hst
      generalize b.length = n at *
      go_enter Try.func37, Try.ntmps37
      go_wp2_with fail
      go_quiet (fail)
      go_wp2_with fail
      go_quiet (fail)
      go_wp2_with fail
      go_ret
      exact ⟨⟨_, ⟨cap - p, (by simp)⟩, unhide HB _ ((unhide HF _).2.below hB hle)⟩, (unhide HF _).1, (unhide HF _).2⟩
/-- take. -/
theorem etake_any (B r : Nat) (a : Option Addr) (cap : Nat) (b : List UInt8) (p : Nat) (q : Rs) (s : Nat) (hs2 : s ≤ 100000) (W : World) (E : Er W B r a cap b p q) :
    Calls Try.prog 37 #[Pt r 0, I s] W fun e W' => ∃ a1 c1 n l' p', e = .returned (.slice a1 n c1) ∧ n = l'.length ∧ l'.length ≤ s ∧ By W' B a1 l' ∧ ((rN s q).2 = false → l' = tkn s q.1 ∧ l'.length = s) ∧ Er W' B r a cap b p' (rN s q) ∧ Gr r W W' := by
  by_cases hno : q.2 = true ∨ b.length - p < s
  · refine (etake_no B r a cap b p q s hs2 W E hno).mono ?_
    rintro e W' ⟨⟨g, rfl⟩, E2, G⟩
    have h2 : (rN s q).2 = true := by
      unfold rN ctt
      rcases hno with h | h
      · simp [h]
      · cases hq : q.2 with
        | true => simp
        | false =>
          have := E.hq hq
          have hl : q.1.length < s := by rw [this, List.length_drop]; omega
          simp [hl]
    exact ⟨_, _, _, [], p, rfl, rfl, Nat.zero_le _, By.nil _ _ _, (fun h => by rw [h2] at h; cases h), E2.cut rfl h2, G⟩
  · have hq : q.2 = false := by
      cases h : q.2 with
      | false => rfl
      | true => exact absurd (.inl h) hno
    have hl : s ≤ b.length - p := by omega
    have e1 := E.hq hq
    have hl2 : ¬ q.1.length < s := by rw [e1, List.length_drop]; omega
    have hr : rN s q = (b.drop (p + s), false) := by
      unfold rN lft ctt
      rw [if_neg hl2, if_neg hl2, hq, e1, List.drop_drop]
    have ht : tkn s q.1 = (b.drop p).take s := by
      unfold tkn
      rw [if_neg hl2, e1]
    refine (etake_yes B r a cap b p q s hs2 W E hq hl).mono ?_
    rintro e W' ⟨⟨a1, ⟨c1, rfl⟩, hby⟩, E2, G⟩
    have hlen : ((b.drop p).take s).length = s := by rw [List.length_take, List.length_drop]; omega
    refine ⟨a1, c1, s, (b.drop p).take s, p + s, rfl, hlen.symm, Nat.le_of_eq hlen, hby, fun _ => ⟨ht.symm, hlen⟩, ?_, G⟩
    rw [hr]
    exact E2
end Go.Proofs.Ytcopjhidijhlaaa.Cl
