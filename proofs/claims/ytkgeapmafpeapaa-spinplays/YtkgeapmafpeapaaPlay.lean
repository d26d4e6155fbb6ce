/-
  The contracts of play and of the iterator that it answers: one access that is asked for is made, if its cell is there, and handed to the loop; else nothing is.
-/
import Derived.Test.YtkgeapmafpeapaaStep
import Derived.RangeFuncNested
import Derived.RangeFuncBound
import Derived.RangeFuncCalls
import Derived.RangeFuncLeaves
import Derived.Shelf.Abstract
import Derived.Shelf.RegionOpen
import Derived.OwnWalkIn
import Derived.TacticsInMore
import Derived.LoopNIn
import Derived.LoopIn
namespace Go.Proofs.Ytkgeapmafpeapaa
open Go.RowKit Go.Shelf
attribute [local go_sem] Oper.semAt_some

theorem cell_lt {W : World} {p : Addr} {v : Value} (h : W.cell? p = some v) : p.block < W.heap.size := by
  unfold World.cell? at h
  cases e : W.heap[p.block]? with
  | none => rw [e] at h; cases h
  | some o => exact (Array.getElem?_eq_some_iff.1 e).1

set_option maxHeartbeats 400000 in
theorem play_any (b q : Nat) (w : World) :
    Calls Try.prog 42 #[.pointer (some ⟨b, 0, none⟩), .slice (some ⟨q, 0, none⟩) 1 1] w fun e w' =>
      e = .returned (.func (.func 49) #[] #[.pointer (some ⟨w.heap.size + 1, 0, none⟩), .pointer (some ⟨w.heap.size, 0, none⟩)]) ∧
      w' = (w.alloc (.cells #[.pointer (some ⟨b, 0, none⟩)] 26)).alloc (.cells #[.slice (some ⟨q, 0, none⟩) 1 1] 102) := by
  go_enter Try.func42, Try.ntmps42
  go_wp2
  go_ret
  exact ⟨rfl, rfl⟩

set_option maxRecDepth 100000 in
set_option maxHeartbeats 1000000 in
theorem play1_yes (l x y q b c n a : Nat) (ws : List Int) (st k0 a0 o0 v0 : Int) (d0 : Bool) (k old new : Int) (d : Bool) (W : World) (J : World → Prop)
    (hx : W.cell? ⟨x, 0, none⟩ = some (.slice (some ⟨q, 0, none⟩) 1 1)) (hy : W.cell? ⟨y, 0, none⟩ = some (.pointer (some ⟨b, 0, none⟩)))
    (hq : Box W q k a old new d) (hM : Mem W b c n ws st k0 a0 o0 v0 d0) (hk : k = 1 ∨ k = 2 ∨ k = 3) (ha : a < n) (s0 : 0 ≤ st) (s1 : st ≤ 1000000)
    (yb : y ≠ b) (yc : y ≠ c)
    (hY : ∀ W1, Mem W1 b c n (ws.set a (nwOf k old new (ws.getD a 0))) (st + 1) k a (ws.getD a 0) (nwOf k old new (ws.getD a 0)) (dnOf k old (ws.getD a 0)) → Frm b c W W1 →
      YieldAt Fence.wide (3 - 1) Try.prog l #[.agg #[.int .i64 k, .int .i64 a, .int .i64 (ws.getD a 0), .int .i64 (nwOf k old new (ws.getD a 0)), .bool (dnOf k old (ws.getD a 0))]] W1 fun e W2 => e = .returned (.bool true) ∧ J W2) :
    CallsIn Fence.wide 3 Try.prog 49 #[.func (.yield l) #[] #[], .pointer (some ⟨x, 0, none⟩), .pointer (some ⟨y, 0, none⟩)] W fun e W' => e = .returned (.tuple #[]) ∧ J W' := by
  have hro : Fence.wide.round = none := rfl
  have HK : Hid (k = 1 ∨ k = 2 ∨ k = 3) := hk
  clear hk
  refine callsIn_of_wp Try.func49 rfl trivial ?_ hro
  simp only [Try.ntmps49, List.size_toArray, List.length_cons, List.length_nil, Nat.reduceAdd, Nat.reduceSub, Array.replicate_succ, Array.replicate_zero, List.push_toArray, List.append_toArray, List.nil_append, List.cons_append]
  gi_wp2_with fail
  gi_loopw [8] (fun i wr => (i = .int .i64 0 ∧ wr = W) ∨ (i = .int .i64 1 ∧ J wr)) (fun i _ => 1 - (intOf i).toNat)
  case atStart => exact .inl ⟨rfl, rfl⟩
  case round =>
    rcases hrel with ⟨rfl, rfl⟩ | ⟨rfl, hJ⟩
    · obtain ⟨q0, q1, q2, q3, q4⟩ := hq.cells
      have hyl : y < wr.heap.size := cell_lt hy
      have hM1 := hM.alloc (.cells #[.int .i64 k, .int .i64 (a : Int), .int .i64 old, .int .i64 new, .bool d] 77)
      gi_wp2_with fail
      refine ⟨trivial, (callsIn_wide.2 (has_yes b c n a _ hM1.cells.1 (by omega) (by omega))).mono ?_⟩
      rintro e w' ⟨rfl, rfl⟩
      gi_wp2_with fail
      refine ⟨trivial, (callsIn_wide.2 (step_any b c n ws st k0 a0 o0 v0 d0 k old new d a _ HK.out hM1 ha s0 s1)).mono ?_⟩
      rintro e w' ⟨rfl, hM2, hF2⟩
      have hF3 := ((Frm.refl b c wr).alloc (.cells #[.int .i64 k, .int .i64 (a : Int), .int .i64 old, .int .i64 new, .bool d] 77)).trans hF2
      have hy3 : w'.cell? ⟨y, 0, none⟩ = some (.pointer (some ⟨b, 0, none⟩)) := by rw [World.cell?_of_block (w := wr) (hF3.block y hyl yb yc)]; exact hy
      obtain ⟨h0, h1, h2, h3, h4, h5, h6, hf⟩ := hM2.cells
      obtain ⟨fn, tmps, assign, body, hyy, hR⟩ := hY w' hM2 hF3
      generalize ws.getD a 0 = held at *
      generalize nwOf k old new held = nw at *
      generalize dnOf k old held = dn at *
      gi_wp2_with fail
      refine hR.mono ?_
      rintro e W2 ⟨rfl, hJ2⟩
      gi_wp2
      go_roundw
      case rel => exact .inr ⟨rfl, hJ2⟩
      case measure => simp [intOf]
    · gi_wp2
      go_end0
      exact ⟨rfl, hJ⟩

theorem has_no (b c n : Nat) (a : Int) (w : World) (h : w.cell? ⟨b, 0, none⟩ = some (.slice (some ⟨c, 0, none⟩) n n)) (ha : a < 0 ∨ (n : Int) ≤ a) :
    Calls Try.prog 50 #[.pointer (some ⟨b, 0, none⟩), .int .i64 a] w fun e w' => e = .returned (.bool false) ∧ w' = w := by
  by_cases h0 : a < 0
  · exact has_no1 b a w h0
  · exact has_no2 b c n a w h (by omega) (by omega)

set_option maxRecDepth 100000 in
set_option maxHeartbeats 1000000 in
theorem play1_no (l x y q b c n : Nat) (a : Int) (k old new : Int) (d : Bool) (W : World)
    (hx : W.cell? ⟨x, 0, none⟩ = some (.slice (some ⟨q, 0, none⟩) 1 1)) (hy : W.cell? ⟨y, 0, none⟩ = some (.pointer (some ⟨b, 0, none⟩)))
    (hq : Box W q k a old new d) (hm : W.cell? ⟨b, 0, none⟩ = some (.slice (some ⟨c, 0, none⟩) n n)) (ha : a < 0 ∨ (n : Int) ≤ a) :
    CallsIn Fence.wide 3 Try.prog 49 #[.func (.yield l) #[] #[], .pointer (some ⟨x, 0, none⟩), .pointer (some ⟨y, 0, none⟩)] W fun e W' => e = .returned (.tuple #[]) ∧ Below W.heap.size W W' := by
  have hro : Fence.wide.round = none := rfl
  have HA : Hid (a < 0 ∨ (n : Int) ≤ a) := ha
  clear ha
  refine callsIn_of_wp Try.func49 rfl trivial ?_ hro
  simp only [Try.ntmps49, List.size_toArray, List.length_cons, List.length_nil, Nat.reduceAdd, Nat.reduceSub, Array.replicate_succ, Array.replicate_zero, List.push_toArray, List.append_toArray, List.nil_append, List.cons_append]
  gi_wp2_with fail
  gi_loopw [8] (fun i wr => (i = .int .i64 0 ∧ wr = W) ∨ (i = .int .i64 1 ∧ Below W.heap.size W wr)) (fun i _ => 1 - (intOf i).toNat)
  case atStart => exact .inl ⟨rfl, rfl⟩
  case round =>
    rcases hrel with ⟨rfl, rfl⟩ | ⟨rfl, hJ⟩
    · obtain ⟨q0, q1, q2, q3, q4⟩ := hq.cells
      have hyl : y < wr.heap.size := cell_lt hy
      have hbl : b < wr.heap.size := cell_lt hm
      gi_wp2_with fail
      refine ⟨trivial, (callsIn_wide.2 (has_no b c n a _ ((World.cell?_alloc_past _ _ _ hbl).trans hm) HA.out)).mono ?_⟩
      rintro e w' ⟨rfl, rfl⟩
      gi_wp2
      go_roundw
      case rel => exact .inr ⟨rfl, (Below.refl _ _).alloc (Nat.le_refl _) _⟩
      case measure => simp [intOf]
    · gi_wp2
      go_end0
      exact ⟨rfl, hJ⟩

end Go.Proofs.Ytkgeapmafpeapaa
