/-
  The contract of the iterator that byUse answers: the entries are handed to the loop one behind the other, until a round leaves.
-/
import Derived.Test.YtjcjibjagjiedaaBase
import Derived.Test.YtjcjibjagjiedaaRange
import Derived.Shelf.Abstract
import Derived.Shelf.RegionOpen
import Derived.OwnWalkIn
import Derived.TacticsInMore
import Derived.LoopNIn
import Derived.LoopIn
namespace Go.Proofs.Ytjcjibjagjiedaa
open Go.RowKit Go.Shelf
attribute [local go_sem] Oper.semAt_some

set_option maxRecDepth 100000 in
set_option maxHeartbeats 1000000 in
theorem iter_some (l x b g m cap : Nat) (W : World) (J : Nat → World → Prop) (S : World → Prop) (hm : m ≤ 1000) (hJ0 : J 0 W)
    (hJA : ∀ i W', J i W' → W'.cell? ⟨x, 0, none⟩ = some (.pointer (some ⟨b, 0, none⟩)) ∧ W'.cell? ⟨b, 1, none⟩ = some (.slice (some ⟨g, 0, none⟩) m cap))
    (hY : ∀ (i : Nat) W', J i W' → i < m → YieldAt Fence.wide (3 - 1) Try.prog l #[.int .i64 (i : Int), .pointer (some ⟨g, i * 2, none⟩)] W' fun e W2 => (e = .returned (.bool true) ∧ J (i + 1) W2) ∨ (e = .returned (.bool false) ∧ S W2)) :
    CallsIn Fence.wide 3 Try.prog 36 #[.func (.yield l) #[] #[], .pointer (some ⟨x, 0, none⟩)] W fun e W' => e = .returned (.tuple #[]) ∧ (J m W' ∨ S W') := by
  have hro : Fence.wide.round = none := rfl
  have HY := hide hY
  have HA := hide hJA
  obtain ⟨x0, b1⟩ := hJA 0 W hJ0
  clear hY hJA
  refine callsIn_of_wp Try.func36 rfl trivial ?_ hro
  simp only [Try.ntmps36, List.size_toArray, List.length_cons, List.length_nil, Nat.reduceAdd, Nat.reduceSub, Array.replicate_succ, Array.replicate_zero, List.push_toArray, List.append_toArray, List.nil_append, List.cons_append]
  gi_wp2_with fail
  clear x0 b1
  gi_loopw [9] (fun i wr => ∃ k : Nat, k ≤ m ∧ i = .int .i64 k ∧ J k wr) (fun i _ => m - (intOf i).toNat)
  case atStart => exact ⟨0, Nat.zero_le _, rfl, hJ0⟩
  case round =>
    obtain ⟨k, hk, rfl, hJ⟩ := hrel
    obtain ⟨x1, b1⟩ := unhide HA k wr hJ
    by_cases hkn : k < m
    · have j1 : (k : Int) < (m : Int) := by omega
      have j0 : (0 : Int) ≤ (k : Int) := by omega
      obtain ⟨fn, tmps, assign, body, hyy, hR⟩ := unhide HY k wr hJ hkn
      clear hJ
      gi_wp2_with fail
      refine hR.mono ?_
      rintro e W2 (⟨rfl, hJ2⟩ | ⟨rfl, hS⟩)
      · gi_wp2_with fail
        go_roundw
        case rel => exact ⟨k + 1, by omega, by go_num, hJ2⟩
        case measure => simp [intOf]; omega
      · gi_wp2_with fail
        refine bodyPost_ret (results_none rfl _ _ _) rfl ?_
        exact ⟨rfl, .inr hS⟩
    · obtain rfl : k = m := by omega
      gi_wp2_with fail
      go_end0
      exact ⟨rfl, .inl hJ⟩

set_option maxRecDepth 100000 in
set_option maxHeartbeats 1000000 in
theorem iter_none (l x b : Nat) (W : World) (x0 : W.cell? ⟨x, 0, none⟩ = some (.pointer (some ⟨b, 0, none⟩))) (b1 : W.cell? ⟨b, 1, none⟩ = some (.slice none 0 0)) :
    CallsIn Fence.wide 3 Try.prog 36 #[.func (.yield l) #[] #[], .pointer (some ⟨x, 0, none⟩)] W fun e W' => e = .returned (.tuple #[]) ∧ W' = W := by
  have hro : Fence.wide.round = none := rfl
  refine callsIn_of_wp Try.func36 rfl trivial ?_ hro
  simp only [Try.ntmps36, List.size_toArray, List.length_cons, List.length_nil, Nat.reduceAdd, Nat.reduceSub, Array.replicate_succ, Array.replicate_zero, List.push_toArray, List.append_toArray, List.nil_append, List.cons_append]
  gi_wp2_with fail
  clear x0 b1
  gi_loopw [9] (fun i wr => i = .int .i64 0 ∧ wr = W) (fun _ _ => 0)
  case atStart => exact ⟨rfl, rfl⟩
  case round =>
    obtain ⟨rfl, rfl⟩ := hrel
    gi_wp2_with fail
    go_end0
    exact ⟨rfl, rfl⟩

theorem iter_go (l x b g m cap : Nat) (a : Option Addr) (W : World) (J : Nat → World → Prop) (S : World → Prop) (hm : m ≤ 1000) (hJ0 : J 0 W) (ha : (a = none ∧ m = 0 ∧ cap = 0) ∨ a = some ⟨g, 0, none⟩)
    (hJA : ∀ i W', J i W' → W'.cell? ⟨x, 0, none⟩ = some (.pointer (some ⟨b, 0, none⟩)) ∧ W'.cell? ⟨b, 1, none⟩ = some (.slice a m cap))
    (hY : ∀ (i : Nat) W', J i W' → i < m → YieldAt Fence.wide (3 - 1) Try.prog l #[.int .i64 (i : Int), .pointer (some ⟨g, i * 2, none⟩)] W' fun e W2 => (e = .returned (.bool true) ∧ J (i + 1) W2) ∨ (e = .returned (.bool false) ∧ S W2)) :
    CallsIn Fence.wide 3 Try.prog 36 #[.func (.yield l) #[] #[], .pointer (some ⟨x, 0, none⟩)] W fun e W' => e = .returned (.tuple #[]) ∧ (J m W' ∨ S W') := by
  rcases ha with ⟨rfl, rfl, rfl⟩ | rfl
  · obtain ⟨x0, b1⟩ := hJA 0 W hJ0
    refine (iter_none l x b W x0 b1).mono ?_
    rintro e W' ⟨rfl, rfl⟩
    exact ⟨rfl, .inl hJ0⟩
  · exact iter_some l x b g m cap W J S hm hJ0 hJA hY
end Go.Proofs.Ytjcjibjagjiedaa
