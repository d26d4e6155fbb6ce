/-
  The contract of the iterator that inOrder answers: names and nodes are handed to the loop one behind the other.
-/
import Derived.Test.YtlngeaacjbdmhaaFly
namespace Go.Proofs.Ytlngeaacjbdmhaa
open Go.RowKit Go.Shelf
attribute [local go_sem] Oper.semAt_some

theorem inOrder_any (b : Nat) (w : World) : Calls Try.prog 35 #[P0 b] w fun e w' => e = .returned (.func (.func 49) #[] #[.pointer (some ⟨w.heap.size, 0, none⟩)]) ∧ w' = w.alloc (.cells #[.pointer (some ⟨b, 0, none⟩)] 62) := by
  go_enter Try.func35, Try.ntmps35
  go_wp2
  go_ret
  exact ⟨rfl, rfl⟩
set_option maxRecDepth 100000 in
set_option maxHeartbeats 1000000 in
theorem iter_some (l x b g m cap : Nat) (es : Ents) (W : World) (J : Nat → World → Prop) (hl : es.length = m) (hm : m ≤ 1000) (hJ0 : J 0 W)
    (hJA : ∀ i W', J i W' → W'.cell? ⟨x, 0, none⟩ = some (.pointer (some ⟨b, 0, none⟩)) ∧ W'.cell? ⟨b, 7, none⟩ = some (.slice (some ⟨g, 0, none⟩) m cap) ∧ ∀ (k : Nat) (a : ByteArray) (n : Int), es[k]? = some (a, n) → W'.cell? ⟨g, k * 2, none⟩ = some (.string a) ∧ W'.cell? ⟨g, k * 2 + 1, none⟩ = some (.int .i64 n))
    (hY : ∀ (i : Nat) W' a n, J i W' → es[i]? = some (a, n) → YieldAt Fence.wide (3 - 1) Try.prog l #[.string a, .int .i64 n] W' fun e W2 => e = .returned (.bool true) ∧ J (i + 1) W2) (hJL : ∀ i W' o, J i W' → J i (W'.alloc o)) :
    CallsIn Fence.wide 3 Try.prog 49 #[.func (.yield l) #[] #[], .pointer (some ⟨x, 0, none⟩)] W fun e W' => e = .returned (.tuple #[]) ∧ J m W' := by
  have hro : Fence.wide.round = none := rfl
  have HY := hide hY
  have HA := hide hJA
  have HLL := hide hJL
  have HL := hide hl
  obtain ⟨x0, b1, -⟩ := hJA 0 W hJ0
  clear hY hJA hJL hl
  refine callsIn_of_wp Try.func49 rfl trivial ?_ hro
  simp only [Try.ntmps49, List.size_toArray, List.length_cons, List.length_nil, Nat.reduceAdd, Nat.reduceSub, Array.replicate_succ, Array.replicate_zero, List.push_toArray, List.append_toArray, List.nil_append, List.cons_append]
  gi_wp2_with fail
  clear x0 b1
  gi_loopw [10] (fun i wr => ∃ k : Nat, k ≤ m ∧ i = .int .i64 k ∧ J k wr) (fun i _ => m - (intOf i).toNat)
  case atStart => exact ⟨0, Nat.zero_le _, rfl, hJ0⟩
  case round =>
    obtain ⟨k, hk, rfl, hJ⟩ := hrel
    by_cases hkn : k < m
    · obtain ⟨⟨a, n⟩, he⟩ : ∃ e, es[k]? = some e := ⟨_, List.getElem?_eq_getElem (by have := unhide HL; omega)⟩
      obtain ⟨x1, b1, hcs⟩ := unhide HA k wr hJ
      obtain ⟨y1, y2⟩ := hcs k a n he
      have j1 : (k : Int) < (m : Int) := by omega
      have j0 : (0 : Int) ≤ (k : Int) := by omega
      obtain ⟨fn, tmps, assign, body, hyy, hR⟩ := unhide HY k (wr.alloc (.cells #[.string a, .int .i64 n] 92)) a n (unhide HLL k wr _ hJ) he
      clear hJ hcs he
      gi_wp2_with fail
      refine hR.mono ?_
      rintro e W2 ⟨rfl, hJ2⟩
      gi_wp2_with fail
      go_roundw
      case rel => exact ⟨k + 1, by omega, by go_num, hJ2⟩
      case measure => simp [intOf]; omega
    · obtain rfl : k = m := by omega
      obtain ⟨x1, b1, -⟩ := unhide HA k wr hJ
      clear hkn
      gi_wp2_with fail
      go_end0
      exact ⟨rfl, hJ⟩
set_option maxRecDepth 100000 in
set_option maxHeartbeats 1000000 in
theorem iter_none (l x b : Nat) (W : World) (x0 : W.cell? ⟨x, 0, none⟩ = some (.pointer (some ⟨b, 0, none⟩))) (b1 : W.cell? ⟨b, 7, none⟩ = some (.slice none 0 0)) :
    CallsIn Fence.wide 3 Try.prog 49 #[.func (.yield l) #[] #[], .pointer (some ⟨x, 0, none⟩)] W fun e W' => e = .returned (.tuple #[]) ∧ W' = W := by
  have hro : Fence.wide.round = none := rfl
  refine callsIn_of_wp Try.func49 rfl trivial ?_ hro
  simp only [Try.ntmps49, List.size_toArray, List.length_cons, List.length_nil, Nat.reduceAdd, Nat.reduceSub, Array.replicate_succ, Array.replicate_zero, List.push_toArray, List.append_toArray, List.nil_append, List.cons_append]
  gi_wp2_with fail
  clear x0 b1
  gi_loopw [10] (fun i wr => i = .int .i64 0 ∧ wr = W) (fun _ _ => 0)
  case atStart => exact ⟨rfl, rfl⟩
  case round =>
    obtain ⟨rfl, rfl⟩ := hrel
    gi_wp2_with fail
    go_end0
    exact ⟨rfl, rfl⟩
/-- The names of a Dir, one behind the other. -/
theorem iter_go {lo : Nat} {V : World} {v : Value} (l x b : Nat) (es : Ents) (W : World) (J : Nat → World → Prop) (hr : Ro lo V v es) (hm : es.length ≤ 1000) (hJ0 : J 0 W)
    (hJA : ∀ i W', J i W' → Below V.heap.size V W' ∧ W'.cell? ⟨x, 0, none⟩ = some (.pointer (some ⟨b, 0, none⟩)) ∧ W'.cell? ⟨b, 7, none⟩ = some v)
    (hY : ∀ (i : Nat) W' a n, J i W' → es[i]? = some (a, n) → YieldAt Fence.wide (3 - 1) Try.prog l #[.string a, .int .i64 n] W' fun e W2 => e = .returned (.bool true) ∧ J (i + 1) W2) (hJL : ∀ i W' o, J i W' → J i (W'.alloc o)) :
    CallsIn Fence.wide 3 Try.prog 49 #[.func (.yield l) #[] #[], .pointer (some ⟨x, 0, none⟩)] W fun e W' => e = .returned (.tuple #[]) ∧ J es.length W' := by
  rcases hr.open' with ⟨rfl, rfl⟩ | ⟨g, cap, rfl, hcap, hcm, hlo, hgl, hcells⟩
  · obtain ⟨_, x0, b1⟩ := hJA 0 W hJ0
    refine (iter_none l x b W x0 b1).mono ?_
    rintro e W' ⟨rfl, rfl⟩
    exact ⟨rfl, hJ0⟩
  · refine iter_some l x b g es.length cap es W J rfl hm hJ0 (fun i W' hJ => ?_) hY hJL
    obtain ⟨hB, x0, b1⟩ := hJA i W' hJ
    refine ⟨x0, b1, fun k a n he => ?_⟩
    obtain ⟨h1, h2⟩ := hcells k a n he
    have hg := hB.block g hgl
    exact ⟨(cell_same hg _).trans h1, (cell_same hg _).trans h2⟩
end Go.Proofs.Ytlngeaacjbdmhaa
