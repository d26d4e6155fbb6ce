/-
  The contract of the iterator that rising answers: the mounts are handed to the loop one behind the other, until a round leaves.
-/
import Derived.Test.YthmpplcaomgdoaaMBase
import Derived.Test.YthmpplcaomgdoaaRange
import Derived.Shelf.Abstract
import Derived.Shelf.RegionOpen
import Derived.OwnWalkIn
import Derived.TacticsInMore
import Derived.LoopNIn
import Derived.LoopIn
namespace Go.Proofs.Ythmpplcaomgdoaa.Mt
open Go.RowKit Go.Shelf
attribute [local go_sem] Oper.semAt_some

set_option maxRecDepth 100000 in
set_option maxHeartbeats 1000000 in
theorem iter_some (l x b g m cap : Nat) (es : Ents) (W : World) (J : Nat → World → Prop) (S : World → Prop) (hl : es.length = m) (hm : m ≤ 1000) (hJ0 : J 0 W)
    (hJA : ∀ i W', J i W' → W'.cell? ⟨x, 0, none⟩ = some (.pointer (some ⟨b, 0, none⟩)) ∧ W'.cell? ⟨b, 2, none⟩ = some (.slice (some ⟨g, 0, none⟩) m cap) ∧ ∀ (k : Nat) (p : Ld), es[k]? = some p → W'.cell? ⟨g, k * 4, none⟩ = some (I p.n) ∧ W'.cell? ⟨g, k * 4 + 1, none⟩ = some (I p.top) ∧ W'.cell? ⟨g, k * 4 + 2, none⟩ = some (I p.am) ∧ W'.cell? ⟨g, k * 4 + 3, none⟩ = some (I p.an))
    (hY : ∀ (i : Nat) W' p, J i W' → es[i]? = some p → YieldAt Fence.wide (4 - 1) Try.prog l #[lv p] W' fun e W2 => (e = .returned (.bool true) ∧ J (i + 1) W2) ∨ (e = .returned (.bool false) ∧ S W2)) (hJL : ∀ i W' o, J i W' → J i (W'.alloc o)) :
    CallsIn Fence.wide 4 Try.prog 42 #[.func (.yield l) #[] #[], .pointer (some ⟨x, 0, none⟩)] W fun e W' => e = .returned (.tuple #[]) ∧ (J m W' ∨ S W') := by
  have hro : Fence.wide.round = none := rfl
  have HY := hide hY
  have HA := hide hJA
  have HL := hide hl
  have HLL := hide hJL
  obtain ⟨x0, b1, -⟩ := hJA 0 W hJ0
  clear hY hJA hl hJL
  refine callsIn_of_wp Try.func42 rfl trivial ?_ hro
  simp only [Try.ntmps42, List.size_toArray, List.length_cons, List.length_nil, Nat.reduceAdd, Nat.reduceSub, Array.replicate_succ, Array.replicate_zero, List.push_toArray, List.append_toArray, List.nil_append, List.cons_append]
  gi_wp2_with fail
  clear x0 b1
  gi_loopw [10] (fun i wr => ∃ k : Nat, k ≤ m ∧ i = .int .i64 k ∧ J k wr) (fun i _ => m - (intOf i).toNat)
  case atStart => exact ⟨0, Nat.zero_le _, rfl, hJ0⟩
  case round =>
    obtain ⟨k, hk, rfl, hJ⟩ := hrel
    by_cases hkn : k < m
    · obtain ⟨p, he⟩ : ∃ e, es[k]? = some e := ⟨_, List.getElem?_eq_getElem (by have := unhide HL; omega)⟩
      obtain ⟨x1, b1, hcs⟩ := unhide HA k wr hJ
      obtain ⟨y0, y1, y2, y3⟩ := hcs k p he
      have j1 : (k : Int) < (m : Int) := by omega
      have j0 : (0 : Int) ≤ (k : Int) := by omega
      obtain ⟨fn, tmps, assign, body, hyy, hR⟩ := unhide HY k (wr.alloc (.cells #[I p.n, I p.top, I p.am, I p.an] 59)) p (unhide HLL k wr _ hJ) he
      unfold lv at hyy
      clear hJ hcs he
      gi_wp2_with fail
      refine hR.mono ?_
      rintro e W2 (⟨rfl, hJ2⟩ | ⟨rfl, hS⟩)
      · gi_wp2_with fail
        go_roundw
        case rel => exact ⟨k + 1, by omega, by go_num, hJ2⟩
        case measure => simp [intOf]; omega
      · gi_wp2_with fail
        refine bodyPost_ret (results_none rfl _ _ _) rfl ?_
        exact ⟨rfl, .inr hS⟩
    · obtain rfl : k = m := by omega
      gi_wp2_with fail
      go_end0
      exact ⟨rfl, .inl hJ⟩

set_option maxRecDepth 100000 in
set_option maxHeartbeats 1000000 in
theorem iter_none (l x b : Nat) (W : World) (x0 : W.cell? ⟨x, 0, none⟩ = some (.pointer (some ⟨b, 0, none⟩))) (b1 : W.cell? ⟨b, 2, none⟩ = some (.slice none 0 0)) :
    CallsIn Fence.wide 4 Try.prog 42 #[.func (.yield l) #[] #[], .pointer (some ⟨x, 0, none⟩)] W fun e W' => e = .returned (.tuple #[]) ∧ W' = W := by
  have hro : Fence.wide.round = none := rfl
  refine callsIn_of_wp Try.func42 rfl trivial ?_ hro
  simp only [Try.ntmps42, List.size_toArray, List.length_cons, List.length_nil, Nat.reduceAdd, Nat.reduceSub, Array.replicate_succ, Array.replicate_zero, List.push_toArray, List.append_toArray, List.nil_append, List.cons_append]
  gi_wp2_with fail
  clear x0 b1
  gi_loopw [10] (fun i wr => i = .int .i64 0 ∧ wr = W) (fun _ _ => 0)
  case atStart => exact ⟨rfl, rfl⟩
  case round =>
    obtain ⟨rfl, rfl⟩ := hrel
    gi_wp2_with fail
    go_end0
    exact ⟨rfl, rfl⟩
/-- The mounts of a table, one behind the other. -/
theorem iter_go {base b : Nat} {V : World} {rt md : Int} {es : Ents} (l x : Nat) (W : World) (J : Nat → World → Prop) (S : World → Prop) (hr : Ls base V b rt md es) (hm : es.length ≤ 1000) (hJ0 : J 0 W)
    (hJA : ∀ i W', J i W' → Below V.heap.size V W' ∧ W'.cell? ⟨x, 0, none⟩ = some (.pointer (some ⟨b, 0, none⟩)))
    (hY : ∀ (i : Nat) W' p, J i W' → es[i]? = some p → YieldAt Fence.wide (4 - 1) Try.prog l #[lv p] W' fun e W2 => (e = .returned (.bool true) ∧ J (i + 1) W2) ∨ (e = .returned (.bool false) ∧ S W2)) (hJL : ∀ i W' o, J i W' → J i (W'.alloc o)) :
    CallsIn Fence.wide 4 Try.prog 42 #[.func (.yield l) #[] #[], .pointer (some ⟨x, 0, none⟩)] W fun e W' => e = .returned (.tuple #[]) ∧ (J es.length W' ∨ S W') := by
  obtain ⟨a, cap, _, _, b2, _, own⟩ := hr.cells
  have hbl := hr.lt
  obtain ⟨g, ⟨rfl, h0, rfl⟩ | rfl⟩ := own_addr own
  · obtain ⟨hB, x0⟩ := hJA 0 W hJ0
    have b1 := (World.cell?_of_block (a := ⟨b, 2, none⟩) (hB.block b hbl)).trans b2
    rw [h0] at b1
    refine (iter_none l x b W x0 b1).mono ?_
    rintro e W' ⟨rfl, rfl⟩
    exact ⟨rfl, .inl (by rw [h0]; exact hJ0)⟩
  · refine iter_some l x b g es.length cap es W J S rfl hm hJ0 (fun i W' hJ => ?_) hY hJL
    obtain ⟨hB, x0⟩ := hJA i W' hJ
    refine ⟨x0, (World.cell?_of_block (a := ⟨b, 2, none⟩) (hB.block b hbl)).trans b2, fun k p he => ?_⟩
    obtain ⟨g', eg, c0, c1, c2, c3, _, hgl⟩ := own_at own he rfl
    simp only [Option.some.injEq, Addr.mk.injEq, and_true] at eg
    subst eg
    have hg := hB.block g hgl
    exact ⟨(World.cell?_of_block hg).trans c0, (World.cell?_of_block hg).trans c1, (World.cell?_of_block hg).trans c2, (World.cell?_of_block hg).trans c3⟩
end Go.Proofs.Ythmpplcaomgdoaa.Mt
