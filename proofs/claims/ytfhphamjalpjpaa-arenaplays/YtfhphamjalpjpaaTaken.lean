/-
  The contracts of taken and of the iterator that it answers: the live slots are handed to the loop by number, each with its generation.
-/
import Derived.Test.YtfhphamjalpjpaaKnown
import Derived.Test.YtfhphamjalpjpaaRange
import Derived.Shelf.Abstract
import Derived.Shelf.RegionOpen
import Derived.OwnWalkIn
import Derived.TacticsInMore
import Derived.LoopNIn
import Derived.LoopIn
namespace Go.Proofs.Ytfhphamjalpjpaa
open Go.RowKit Go.Shelf
attribute [local go_sem] Oper.semAt_some

set_option maxHeartbeats 400000 in
theorem taken_any (b : Nat) (w : World) :
    Calls Try.prog 28 #[.pointer (some ⟨b, 0, none⟩)] w fun e w' =>
      e = .returned (.func (.func 31) #[] #[.pointer (some ⟨w.heap.size, 0, none⟩)]) ∧ w' = w.alloc (.cells #[.pointer (some ⟨b, 0, none⟩)] 22) := by
  go_enter Try.func28, Try.ntmps28
  go_wp2
  go_ret
  exact ⟨rfl, rfl⟩

set_option maxRecDepth 100000 in
set_option maxHeartbeats 1000000 in
theorem taken_go (l x b c d n : Nat) (gs : List Slot) (q : List Nat) (st : Int) (W : World) (J : Nat → World → Prop) (hJ0 : J 0 W)
    (hJA : ∀ i W', J i W' → Ar W' b c d n gs q st ∧ W'.cell? ⟨x, 0, none⟩ = some (.pointer (some ⟨b, 0, none⟩)))
    (hnn : ∀ (i : Nat) (g v : Int), gs[i]? = some (g, v) → 0 ≤ g)
    (hdead : ∀ (i : Nat) W' (g v : Int), J i W' → gs[i]? = some (g, v) → ¬ g % 2 = 1 → J (i + 1) W')
    (hlive : ∀ (i : Nat) W' (g v : Int), J i W' → gs[i]? = some (g, v) → g % 2 = 1 → YieldAt Fence.wide (3 - 1) Try.prog l #[.agg #[.int .i64 (i : Int), .int .i64 g]] W' fun e W2 => e = .returned (.bool true) ∧ J (i + 1) W2) :
    CallsIn Fence.wide 3 Try.prog 31 #[.func (.yield l) #[] #[], .pointer (some ⟨x, 0, none⟩)] W fun e W' => e = .returned (.tuple #[]) ∧ J n W' := by
  have hro : Fence.wide.round = none := rfl
  have HL := hide hlive
  have HD := hide hdead
  have HA := hide hJA
  have HN := hide hnn
  obtain ⟨A0, x0⟩ := hJA 0 W hJ0
  obtain ⟨a0, a1, a2, af⟩ := A0.cells
  have hn64 := A0.hi
  clear hlive hdead hJA hnn A0
  refine callsIn_of_wp Try.func31 rfl trivial ?_ hro
  simp only [Try.ntmps31, List.size_toArray, List.length_cons, List.length_nil, Nat.reduceAdd, Nat.reduceSub, Array.replicate_succ, Array.replicate_zero, List.push_toArray, List.append_toArray, List.nil_append, List.cons_append]
  gi_wp2_with fail
  clear a0 a1 a2 af x0
  gi_loopw [10] (fun i wr => ∃ k : Nat, k ≤ n ∧ i = .int .i64 k ∧ J k wr) (fun i _ => n - (intOf i).toNat)
  case atStart => exact ⟨0, Nat.zero_le _, rfl, hJ0⟩
  case round =>
    obtain ⟨k, hk, rfl, hJ⟩ := hrel
    obtain ⟨A1, x1⟩ := unhide HA k wr hJ
    by_cases hkn : k < n
    · have j1 : (k : Int) < (n : Int) := by omega
      have j0 : (0 : Int) ≤ (k : Int) := by omega
      obtain ⟨g, v, hg⟩ := A1.get hkn
      obtain ⟨a0, a1, a2, af⟩ := A1.cells
      obtain ⟨s0, s1, sf⟩ := A1.slot hg
      have g0 := unhide HN k g v hg
      by_cases hodd : g % 2 = 1
      · obtain ⟨fn, tmps, assign, body, hyy, hR⟩ := unhide HL k wr g v hJ hg hodd
        have HV := hide (live_yes ⟨c, k * 2, none⟩ g wr s0 g0 hodd)
        clear hodd hg A1 a1 a2 af s1 sf hJ
        gi_wp2_with fail
        refine ⟨trivial, (callsIn_wide.2 (unhide HV)).mono ?_⟩
        rintro e w' ⟨rfl, rfl⟩
        gi_wp2_with fail
        refine hR.mono ?_
        rintro e W2 ⟨rfl, hJ2⟩
        gi_wp2_with fail
        go_roundw
        case rel => exact ⟨k + 1, by omega, by go_num, hJ2⟩
        case measure => simp [intOf]; omega
      · have hJ2 := unhide HD k wr g v hJ hg hodd
        have HV := hide (live_no ⟨c, k * 2, none⟩ g wr s0 g0 hodd)
        clear hodd hg A1 a1 a2 af s1 sf hJ
        gi_wp2_with fail
        refine ⟨trivial, (callsIn_wide.2 (unhide HV)).mono ?_⟩
        rintro e w' ⟨rfl, rfl⟩
        gi_wp2_with fail
        refine ⟨fun _ h => (by cases h), ?_⟩
        gi_wp2_with fail
        go_roundw
        case rel => exact ⟨k + 1, by omega, by go_num, hJ2⟩
        case measure => simp [intOf]; omega
    · obtain rfl : k = n := by omega
      gi_wp2_with fail
      go_end0
      exact ⟨rfl, hJ⟩
end Go.Proofs.Ytfhphamjalpjpaa
