/-
  The contract of the iterator that numbers answers: the places of a call's five numbers, one behind the other, until a round leaves.
-/
import Derived.Test.YtcopjhidijhlaaaCPut
import Derived.Test.YtcopjhidijhlaaaRange
import Derived.Shelf.Abstract
import Derived.Shelf.RegionOpen
import Derived.OwnWalkIn
import Derived.TacticsInMore
import Derived.LoopNIn
import Derived.LoopIn
namespace Go.Proofs.Ytcopjhidijhlaaa.Cl
open Go.RowKit Go.Shelf
attribute [local go_sem] Oper.semAt_some

abbrev Pt (b o : Nat) : Value := .pointer (some ⟨b, o, none⟩)
/-- The row of the five places. -/
abbrev five (cb : Nat) : Array Value := #[Pt cb 3, Pt cb 4, Pt cb 5, Pt cb 6, Pt cb 7]
theorem five_get {cb k : Nat} (h : k < 5) : (five cb)[k]? = some (Pt cb (3 + k)) := by
  match k, h with
  | 0, _ => rfl
  | 1, _ => rfl
  | 2, _ => rfl
  | 3, _ => rfl
  | 4, _ => rfl
set_option maxRecDepth 100000 in
set_option maxHeartbeats 1000000 in
theorem numbers_any (cb p : Nat) (W : World) (hp : p = W.heap.size) : Calls Try.prog 31 #[Pt cb 0] W fun e W' => e = .returned (.func (.func 44) #[] #[Pt p 0]) ∧ W' = W.alloc (.cells #[Pt cb 0] 62) := by
  subst hp
  go_enter Try.func31, Try.ntmps31
  go_wp2_with fail
  go_ret
  exact ⟨rfl, rfl⟩
set_option maxRecDepth 100000 in
set_option maxHeartbeats 1000000 in
theorem nums_iter (l x cb : Nat) (W : World) (J : Nat → World → Prop) (S : World → Prop) (x0 : W.cell? ⟨x, 0, none⟩ = some (Pt cb 0))
    (hJ0 : J 0 (W.alloc (.cells (five cb) 63)).drew)
    (hJA : ∀ i W', J i W' → W'.heap[W.heap.size]? = some (.cells (five cb) 63))
    (hY : ∀ (i : Nat) W', i < 5 → J i W' → YieldAt Fence.wide (4 - 1) Try.prog l #[Pt cb (3 + i)] W' fun e W2 => (e = .returned (.bool true) ∧ J (i + 1) W2) ∨ (e = .returned (.bool false) ∧ S W2)) :
    CallsIn Fence.wide 4 Try.prog 44 #[.func (.yield l) #[] #[], Pt x 0] W fun e W' => e = .returned (.tuple #[]) ∧ (J 5 W' ∨ S W') := by
  have hro : Fence.wide.round = none := rfl
  have HY := hide hY
  have HA := hide hJA
  have HJ := hide hJ0
  clear hY hJA hJ0
  refine callsIn_of_wp Try.func44 rfl trivial ?_ hro
  simp only [Try.ntmps44, List.size_toArray, List.length_cons, List.length_nil, Nat.reduceAdd, Nat.reduceSub, Array.replicate_succ, Array.replicate_zero, List.push_toArray, List.append_toArray, List.nil_append, List.cons_append]
  gi_wp2_with fail
  gi_region
  have hJ1 := unhide HJ
  unfold five at hJ1
  generalize (W.alloc (.cells _ 63)).drew = V at hJ1 ⊢
  generalize W.heap.size = p at *
  clear HJ x0
  gi_wp2_with fail
  gi_loopw [22] (fun i wr => ∃ k : Nat, k ≤ 5 ∧ i = .int .i64 k ∧ J k wr) (fun i _ => 5 - (intOf i).toNat)
  case atStart => exact ⟨0, by omega, rfl, hJ1⟩
  case round =>
    obtain ⟨k, hk, rfl, hJ⟩ := hrel
    by_cases hkn : k < 5
    · have hp := unhide HA k wr hJ
      have j1 : (k : Int) < 5 := by omega
      have j0 : (0 : Int) ≤ (k : Int) := by omega
      have y0 : wr.cell? ⟨p, k, none⟩ = some (Pt cb (3 + k)) := by rw [cell_of hp]; exact five_get hkn
      obtain ⟨fn, tmps, assign, body, hyy, hR⟩ := unhide HY k wr hkn hJ
      clear hJ hp
      gi_wp2_with fail
      refine hR.mono ?_
      rintro e W2 (⟨rfl, hJ2⟩ | ⟨rfl, hS⟩)
      · gi_wp2_with fail
        go_roundw
        case rel => exact ⟨k + 1, by omega, by go_num, hJ2⟩
        case measure => simp [intOf]; omega
      · gi_wp2_with fail
        refine bodyPost_ret (results_none rfl _ _ _) rfl ?_
        exact ⟨rfl, .inr hS⟩
    · obtain rfl : k = 5 := by omega
      gi_wp2_with fail
      go_end0
      exact ⟨rfl, .inl hJ⟩
end Go.Proofs.Ytcopjhidijhlaaa.Cl
