/-
  Read as a law sees it: a path in a box, its parts in a row; what known answers.
-/
import Derived.Test.YtnhddendkolfeaaClean
import Derived.Test.YtnhddendkolfeaaAny
import Derived.Test.YtnhddendkolfeaaLong
namespace Go.Proofs.Ytnhddendkolfeaa
open Go.RowKit
attribute [local go_sem ↓] Go.wp_at_zero Go.wp_at_succ

theorem read_P (l : List UInt8) (w : World) : Calls Try.prog 9 #[S l] w fun e w' => ∃ a cap, e = .returned (.tuple #[.agg #[.bool (rt l), .bool (sl l), .slice a (ps l).length cap], .int .i64 (err l)]) ∧ RowO w' a (ps l) ∧ Below w.heap.size w w' := by
  refine (read_any l w).mono ?_
  rintro e w' ⟨v, rfl, own, hB⟩
  obtain ⟨a, cap, rfl⟩ := own_form own
  exact ⟨a, cap, rfl, RowO.of_own own, hB⟩
/-- A path in a box of its own. -/
structure PB (W : World) (b : Nat) (r s : Bool) (a : Option Addr) (n cap : Nat) (q : List (List UInt8)) : Prop where
  bx : W.heap[b]? = some (.cells #[.bool r, .bool s, .slice a n cap] 24)
  rw : RowO W a q
theorem PB.below {W W' : World} {b : Nat} {r s : Bool} {a : Option Addr} {n cap : Nat} {q : List (List UInt8)} (P : PB W b r s a n cap q) (h : Below W.heap.size W W') : PB W' b r s a n cap q :=
  ⟨(h.block b (lt_of_heap P.bx)).trans P.bx, P.rw.below h⟩
theorem PB.cells {W : World} {b : Nat} {r s : Bool} {a : Option Addr} {n cap : Nat} {q : List (List UInt8)} (P : PB W b r s a n cap q) : W.cell? ⟨b, 0, none⟩ = some (.bool r) ∧ W.cell? ⟨b, 1, none⟩ = some (.bool s) ∧ W.cell? ⟨b, 2, none⟩ = some (.slice a n cap) := by
  refine ⟨?_, ?_, ?_⟩ <;> rw [cell_of P.bx] <;> rfl
/-- A new block. -/
theorem box {W : World} (o : Obj) : ∃ W', W.alloc o = W' ∧ Below W.heap.size W W' ∧ W'.heap[W.heap.size]? = some o :=
  ⟨_, rfl, (Below.refl _ W).alloc (Nat.le_refl _) o, putAll _ _ rfl⟩
theorem pbox {W : World} {r s : Bool} {a : Option Addr} {n cap : Nat} {q : List (List UInt8)} (h : RowO W a q) : ∃ W', W.alloc (.cells #[.bool r, .bool s, .slice a n cap] 24) = W' ∧ Below W.heap.size W W' ∧ PB W' W.heap.size r s a n cap q := by
  obtain ⟨W', h1, h2, h3⟩ := box (W := W) (.cells #[.bool r, .bool s, .slice a n cap] 24)
  exact ⟨W', h1, h2, h3, h.below h2⟩
theorem Below.step {B : Nat} {u v w : World} (h : Below B u v) (g : Below v.heap.size v w) (hb : B ≤ u.heap.size) : Below B u w := h.trans (g.mono (Nat.le_trans hb h.size))

abbrev k1 : List UInt8 := [47, 47, 97, 47, 46, 47, 98, 47]
theorem k1e : err k1 = 0 := by decide +kernel
theorem k1r : rt k1 = true := by decide +kernel
theorem k1s : sl k1 = true := by decide +kernel
theorem k1p : ps k1 = [[97], [46], [98]] := by decide +kernel
theorem k2e : err [97, 47, 46, 47] = 0 := by decide +kernel
theorem k2c : cl [97, 47, 46, 47] = [97, 47] := by decide +kernel
theorem read_1 (w : World) : Calls Try.prog 9 #[.string ⟨#[47, 47, 97, 47, 46, 47, 98, 47]⟩] w fun e w' => ∃ a cap, e = .returned (.tuple #[.agg #[.bool true, .bool true, .slice a 3 cap], .int .i64 0]) ∧ RowO w' a [[97], [46], [98]] ∧ Below w.heap.size w w' := by
  have h := read_P k1 w
  rw [k1e, k1r, k1s, k1p] at h
  exact h
theorem clean_2 (w : World) : Calls Try.prog 11 #[.string ⟨#[97, 47, 46, 47]⟩] w fun e w' => e = .returned (.tuple #[.string ⟨#[97, 47]⟩, .int .i64 0]) ∧ Below w.heap.size w w' := by
  have h := clean_any [97, 47, 46, 47] w
  rw [k2e, k2c] at h
  exact h
theorem read_3 (w : World) : Calls Try.prog 9 #[.string ⟨#[]⟩] w fun e w' => ∃ a cap, e = .returned (.tuple #[.agg #[.bool false, .bool false, .slice a 0 cap], .int .i64 32]) ∧ RowO w' a [] ∧ Below w.heap.size w w' := by
  have h := read_P [] w
  have e1 : err [] = 32 := by decide +kernel
  have e2 : rt [] = false := by decide +kernel
  have e3 : sl [] = false := by decide +kernel
  have e4 : ps [] = [] := by decide +kernel
  rw [e1, e2, e3, e4] at h
  exact h
/-- Three strings in a new block. -/
theorem row3 {W : World} (x y z : List UInt8) : ∃ W', W.alloc (.cells #[S x, S y, S z] 9) = W' ∧ Below W.heap.size W W' ∧ RowO W' (some ⟨W.heap.size, 0, none⟩) [x, y, z] := by
  obtain ⟨W', h1, h2, h3⟩ := box (W := W) (.cells #[S x, S y, S z] 9)
  refine ⟨W', h1, h2, fun k s hk => ⟨W.heap.size, 0, rfl, lt_of_heap h3, ?_⟩⟩
  rw [cell_of h3]
  match k, hk with
  | 0, hk => simp at hk; subst hk; rfl
  | 1, hk => simp at hk; subst hk; rfl
  | 2, hk => simp at hk; subst hk; rfl
set_option maxRecDepth 100000 in
set_option maxHeartbeats 1000000 in
theorem known_any (w : World) : Calls Try.prog 14 #[] w fun e w' => e = .returned (.bool true) ∧ Below w.heap.size w w' := by
  go_enter Try.func14, Try.ntmps14
  go_wp2_with fail
  refine (read_1 _).mono ?_
  rintro e w1 ⟨a, cap, rfl, r1, B1⟩
  obtain ⟨w2, hw2, B2, P2⟩ := pbox (r := true) (s := true) (n := 3) (cap := cap) r1
  have Z := hide (Below.step B1 B2 (Nat.le_refl _))
  replace P2 := hide P2
  clear r1 B1 B2
  go_wp2_with fail
  refine (clean_2 _).mono ?_
  rintro e w3 ⟨rfl, B3⟩
  replace P2 := hide ((unhide P2).below B3)
  replace Z := hide (Below.step (unhide Z) B3 (Nat.le_refl _))
  generalize w1.heap.size = b at *
  clear hw2 B3
  go_wp2_with fail
  refine (read_3 _).mono ?_
  rintro e w4 ⟨a4, cap4, rfl, r4, B4⟩
  obtain ⟨w5, hw5, B5, P5⟩ := pbox (r := false) (s := false) (n := 0) (cap := cap4) r4
  replace P2 := unhide P2 |>.below B4 |>.below B5
  replace Z := hide (Below.step (Below.step (unhide Z) B4 (Nat.le_refl _)) B5 (Nat.le_refl _))
  clear P5 B4 B5 r4
  obtain ⟨c0, c1, c2⟩ := P2.cells
  obtain ⟨w6, hw6, B6, R6⟩ := row3 (W := w5) [97] [46] [98]
  have H := hide (same_yes a (some ⟨w5.heap.size, 0, none⟩) cap 3 3 [[97], [46], [98]] rfl (by omega) w6 (P2.rw.below B6) R6)
  replace Z := hide (Below.step (unhide Z) B6 (Nat.le_refl _))
  clear P2 R6 B6
  go_wp2_with fail
  refine (unhide H).mono ?_
  rintro e w7 ⟨rfl, B7⟩
  replace Z := hide (Below.step (unhide Z) B7 (Nat.le_refl _))
  clear B7 hw5 hw6 c0 c1 c2 H
  go_wp2_with fail
  go_ret
  exact ⟨rfl, unhide Z⟩
/-- Read where only the refusal is asked for. -/
theorem read_E {l : List UInt8} {x : Int} (he : err l = x) (w : World) : Calls Try.prog 9 #[S l] w fun e w' => ∃ r s a n cap, e = .returned (.tuple #[.agg #[.bool r, .bool s, .slice a n cap], .int .i64 x]) ∧ Below w.heap.size w w' := by
  refine (read_P l w).mono ?_
  rintro e w' ⟨a, cap, rfl, _, hB⟩
  rw [he]
  exact ⟨_, _, _, _, _, rfl, hB⟩
theorem clean_E {l m : List UInt8} {x : Int} (he : err l = x) (hm : cl l = m) (w : World) : Calls Try.prog 11 #[S l] w fun e w' => e = .returned (.tuple #[S m, .int .i64 x]) ∧ Below w.heap.size w w' := by
  have h := clean_any l w
  rw [he, hm] at h
  exact h
theorem right_E {l : List UInt8} {x : Bool} (he : right l = x) (w : World) : Calls Try.prog 12 #[S l] w fun e w' => e = .returned (.bool x) ∧ w' = w := by
  have h := right_any l w
  rw [he] at h
  exact h
theorem dots_E {l : List UInt8} {x : Bool} (he : dots l = x) (w : World) : Calls Try.prog 13 #[S l] w fun e w' => e = .returned (.bool x) ∧ w' = w := by
  have h := dots_any l w
  rw [he] at h
  exact h
end Go.Proofs.Ytnhddendkolfeaa
