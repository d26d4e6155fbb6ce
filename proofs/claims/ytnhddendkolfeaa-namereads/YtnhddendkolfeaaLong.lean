/-
  Rows of bytes that a law makes; what long answers.
-/
import Derived.Test.YtnhddendkolfeaaBase
import Derived.Laws.MakeOwn
import Derived.Laws.IdiomStrings
namespace Go.Proofs.Ytnhddendkolfeaa
open Go.RowKit
attribute [local go_sem ↓] Go.wp_at_zero Go.wp_at_succ

def byteRow (l : List UInt8) : Array Value := (l.map fun b => Value.int .u8 (b.toNat : Int)).toArray
theorem made_rep (z : Value) (n : Nat) : madeCells #[z] n = (List.replicate n z).toArray := by
  apply Array.ext
  · simp [madeCells]
  · intro i h1 h2
    simp [madeCells, Nat.mod_one]
theorem make_run (n : Nat) (hn : n ≤ 100000) (w : World) : (Instr.makeSlice 44 (.int .i64 (n : Int)) (.int .i64 (n : Int))).run Try.prog w = .ok (.slice (some ⟨w.heap.size, 0, none⟩) n n) (w.alloc (.cells (byteRow (List.replicate n 0)) 5)) := by
  obtain ⟨i0, hi, hz0, hz1, hz2⟩ := info_parts info5
  have h := run_make w 44 5 i0 (.int .u8 0) Try.underlying44 hi hz0 .i64 .i64 (n : Int) (n : Int) (by omega) (by omega) (by rw [hz2]; omega) (by omega)
  rw [hz1, show (Value.int .u8 0).cells = #[.int .u8 0] from rfl, made_rep] at h
  rw [h]
  simp [byteRow]
theorem byte_get {l : List UInt8} {k : Nat} {c : UInt8} (h : l[k]? = some c) : (byteRow l)[k]? = some (.int .u8 (c.toNat : Int)) := by simp [byteRow, h]
theorem byte_set (l : List UInt8) (k : Nat) (c : UInt8) : (byteRow l).setIfInBounds k (.int .u8 (c.toNat : Int)) = byteRow (l.set k c) := by
  simp [byteRow, List.map_set]
theorem conv_run (l : List UInt8) (n : Nat) (hn : l.length = n) (g cap : Nat) (W : World) (h : W.heap[g]? = some (.cells (byteRow l) 5)) : (convert 44 9 (.slice (some ⟨g, 0, none⟩) n cap)).run Try.prog W = .ok (S l) W := by
  subst hn
  refine run_convert_bytes_back W 44 9 5 ⟨g, 0, none⟩ cap l Try.underlying44 Try.underlying5 Try.underlying9 ?_
  intro j hj
  have e : (⟨g, 0, none⟩ : Addr).add j = ⟨g, j, none⟩ := by unfold Addr.add; split <;> simp_all
  rw [e, cell_of h]
  exact byte_get (List.getElem?_eq_getElem hj)
theorem rep_get (n k : Nat) (c d : UInt8) (h : k < n) : (List.replicate k c ++ List.replicate (n - k) d)[k]? = some d := by
  rw [List.getElem?_append_right (by simp), List.length_replicate, Nat.sub_self, List.getElem?_replicate, if_pos (by omega)]
theorem rep_set (n k : Nat) (c d : UInt8) (h : k < n) : (List.replicate k c ++ List.replicate (n - k) d).set k c = List.replicate (k + 1) c ++ List.replicate (n - (k + 1)) d := by
  obtain ⟨m, rfl⟩ : ∃ m, n = k + 1 + m := ⟨n - (k + 1), by omega⟩
  rw [show k + 1 + m - k = m + 1 by omega, show k + 1 + m - (k + 1) = m by omega, List.set_append_right _ _ (by simp)]
  rw [List.length_replicate, Nat.sub_self, List.replicate_succ, List.set_cons_zero, List.replicate_succ' (n := k), List.append_assoc]
  rfl
set_option maxRecDepth 100000 in
set_option maxHeartbeats 1000000 in
theorem long_any (n : Nat) (hn : n ≤ 100000) (w : World) : Calls Try.prog 10 #[.int .i64 (n : Int)] w fun e w' => e = .returned (S (List.replicate n 120)) ∧ Below w.heap.size w w' := by
  have hm := make_run n hn w
  have HB := hide ((Below.refl w.heap.size w).alloc (Nat.le_refl _) (.cells (byteRow (List.replicate n 0)) 5))
  have HP := hide (putAll (w := w) (.cells (byteRow (List.replicate n 0)) 5) _ rfl)
  obtain ⟨w1, hw1⟩ : ∃ w1, w.alloc (.cells (byteRow (List.replicate n 0)) 5) = w1 := ⟨_, rfl⟩
  rw [hw1] at hm HB HP
  generalize w.heap.size = g at *
  clear hw1
  go_enter Try.func10, Try.ntmps10
  go_wp2_with fail
  clear hm
  go_loopw [4] (fun i wr => ∃ k : Nat, k ≤ n ∧ i = .int .i64 k ∧ wr.heap[g]? = some (.cells (byteRow (List.replicate k 120 ++ List.replicate (n - k) 0)) 5) ∧ Below g w wr) (fun i _ => n - (intOf i).toNat)
  case atStart => exact ⟨0, by omega, rfl, by simpa using unhide HP, unhide HB⟩
  case round =>
    obtain ⟨k, hk, rfl, hg, hB⟩ := hrel
    by_cases hlt : k < n
    · have j0 : (0 : Int) ≤ (k : Int) := by omega
      have j1 : (k : Int) < (n : Int) := by omega
      have c0 : wr.cell? ⟨g, k, none⟩ = some (.int .u8 0) := by rw [cell_of hg]; exact byte_get (rep_get n k 120 0 hlt)
      have cf : wr.frozen? ⟨g, k, none⟩ = false := frozen_of hg k
      have hg2 := hide ((heap_set hg k (.int .u8 120)).trans (by rw [show (Value.int .u8 120) = .int .u8 ((120 : UInt8).toNat : Int) from rfl, byte_set, rep_set n k 120 0 hlt]))
      have hB2 := hide (hB.setCell (p := ⟨g, k, none⟩) (Nat.le_refl _) (.int .u8 120))
      clear hg hB
      go_wp2_with fail
      exact ⟨⟨k + 1, by omega, rfl, unhide hg2, unhide hB2⟩, by simp [intOf]; omega⟩
    · obtain rfl : k = n := by omega
      have j1 : ¬ (k : Int) < (k : Int) := by omega
      rw [Nat.sub_self, List.replicate_zero, List.append_nil] at hg
      have hc := conv_run (List.replicate k 120) k (by simp) g k wr hg
      replace hB := hide hB
      clear hg
      go_wp2_with fail
      go_ret
      exact ⟨rfl, unhide hB⟩
end Go.Proofs.Ytnhddendkolfeaa
