/-
  The contract of New: a number that may not be is refused; else an arena whose slots are all free, in the order of their numbers.
-/
import Derived.Test.YtfhphamjalpjpaaOps
namespace Go.Proofs.Ytfhphamjalpjpaa
open Go.RowKit
attribute [local go_sem ↓] Go.wp_at_zero Go.wp_at_succ

/-- make of a slice whose elements are structs. -/
theorem run_make_struct (t e : TypeId) (z : Value) (size bytes : Nat) (ht : Try.prog.underlying t = some (.slice e)) (hinfo : (Try.prog.info? e).map (fun i => (i.zero, i.size, i.bytes)) = some (some z, size, bytes))
    (kl kc : IntKind) (m n : Nat) (hmn : m ≤ n) (hbytes : bytes * n ≤ 281474976710656) (h63 : n ≤ 1000000) (w : World) :
    (Instr.makeSlice t (.int kl (m : Int)) (.int kc (n : Int))).run Try.prog w = .ok (.slice (some ⟨w.heap.size, 0, none⟩) m n) (w.alloc (.cells (madeCells z.cells (n * size)) e)) := by
  obtain ⟨i, hi, hzz⟩ := Option.map_eq_some_iff.1 hinfo
  simp only [Prod.mk.injEq] at hzz
  obtain ⟨hz, hs, hb⟩ := hzz
  have hb' : (i.bytes : Int) * (n : Int) ≤ 281474976710656 := by
    have h : ((i.bytes * n : Nat) : Int) ≤ 281474976710656 := by rw [hb]; omega
    rwa [Int.natCast_mul] at h
  have hr := run_make (P := Try.prog) w t e i z ht hi hz kl kc m n (by omega) (by omega) hb' (by omega)
  simp only [Int.toNat_natCast, hs] at hr
  exact hr

theorem made_rows {α : Type} (r : α → List Value) (k : Nat) (hk : 0 < k) (x : α) (zc : Array Value) (hz : zc.size = k) (hx : r x = zc.toList) (n : Nat) : madeCells zc (n * k) = (rowsOf r (List.replicate n x)).toArray := by
  have hlen : (rowsOf r (List.replicate n x)).length = k * n := by
    induction n with
    | zero => rfl
    | succ m ih =>
      simp only [rowsOf, List.replicate_succ, List.flatMap_cons, List.length_append] at *
      rw [ih, hx, Nat.mul_succ]; simp [hz]; omega
  have hget : ∀ m j, j < k * m → (rowsOf r (List.replicate m x))[j]? = zc[j % k]? := by
    intro m
    induction m with
    | zero => intro j hj; simp at hj
    | succ m ih =>
      intro j hj
      simp only [rowsOf, List.replicate_succ, List.flatMap_cons] at *
      by_cases hjk : j < k
      · rw [List.getElem?_append_left (by rw [hx]; simp [hz]; exact hjk), hx, Nat.mod_eq_of_lt hjk]; simp
      · rw [List.getElem?_append_right (by rw [hx]; simp [hz]; omega), hx]
        have h1 := ih (j - k) (by rw [Nat.mul_succ] at hj; omega)
        simp only [Array.length_toList, hz]
        rw [h1, ← Nat.mod_eq_sub_mod (by omega)]
  apply Array.ext
  · simp only [size_madeCells, List.size_toArray, hlen]; rw [Nat.mul_comm]
  · intro j h1 h2
    have h3 : j < k * n := by simpa [hlen] using h2
    have h4 := hget n j h3
    have h5 : j % k < zc.size := by rw [hz]; exact Nat.mod_lt _ hk
    simp only [madeCells, Array.getElem_map, Array.getElem_range, hz, List.getElem_toArray]
    rw [List.getElem?_eq_getElem (by simpa using h2), Array.getElem?_eq_getElem h5] at h4
    rw [getElem!_pos zc (j % k) h5]
    exact (Option.some.inj h4).symm

theorem info70 : (Try.prog.info? 70).map (fun i => (i.zero, i.size, i.bytes)) = some (some (.agg #[.int .i64 0, .int .i64 0]), 2, 16) := by kernel_rfl
theorem made_zero (n : Nat) : madeCells #[.int .i64 0] n = (List.replicate n (Value.int .i64 0)).toArray := by
  apply Array.ext
  · simp [madeCells]
  · intro i h1 h2
    simp [madeCells, Nat.mod_one]

set_option maxHeartbeats 400000 in
theorem new_bad (m : Int) (hm : m < 1 ∨ 64 < m) (w : World) :
    Calls Try.prog 8 #[.int .i64 m] w fun e w' => e = .returned (.tuple #[.pointer none, .int .i64 1]) ∧ w' = w := by
  by_cases h1 : m < 1
  · clear hm
    go_enter Try.func8, Try.ntmps8
    go_wp2_with fail
    go_ret2
    exact ⟨rfl, rfl⟩
  · have h2 : 64 < m := by omega
    clear hm
    go_enter Try.func8, Try.ntmps8
    go_wp2_with fail
    go_ret2
    exact ⟨rfl, rfl⟩

theorem three (w : World) (o1 o2 o3 : Obj) : ∃ V : World, (((w.alloc o1).alloc o2).alloc o3).drew = V ∧ V.heap.size = w.heap.size + 3 ∧ V.heap[w.heap.size]? = some o1 ∧ V.heap[w.heap.size + 1]? = some o2 ∧ V.heap[w.heap.size + 2]? = some o3 ∧ Below w.heap.size w V := by
  refine ⟨_, rfl, by simp, ?_, ?_, ?_, ?_⟩
  · show (((w.alloc o1).alloc o2).alloc o3).heap[w.heap.size]? = some o1
    rw [Below.heap_alloc _ _ _ (by simp; omega), Below.heap_alloc _ _ _ (by simp)]; exact putAll _ _ rfl
  · show (((w.alloc o1).alloc o2).alloc o3).heap[w.heap.size + 1]? = some o2
    rw [Below.heap_alloc _ _ _ (by simp)]; exact putAll _ _ (by simp)
  · exact putAll _ _ (by simp)
  · have h := (((Below.refl w.heap.size w).alloc (Nat.le_refl _) o1).alloc (by simp) o2).alloc (by simp; omega) o3
    exact ⟨h.os, h.tape, h.output, h.size, h.block⟩

/-- The free slots while they are laid: k of n are there. -/
def fillq (k n : Nat) : List Value := nums (List.range k) ++ List.replicate (n - k) (Value.int .i64 0)
theorem fillq_zero (n : Nat) : fillq 0 n = List.replicate n (Value.int .i64 0) := by simp [fillq, nums]
theorem fillq_full (n : Nat) : fillq n n = nums (List.range n) ++ [] := by simp [fillq]
theorem fillq_get (k n : Nat) (h : k < n) : (fillq k n)[k]? = some (Value.int .i64 0) := by
  unfold fillq
  rw [List.getElem?_append_right (by simp)]
  simp only [nums, List.length_map, List.length_range, Nat.sub_self]
  rw [List.getElem?_replicate, if_pos (by omega)]
theorem fillq_set (k n : Nat) (h : k < n) : (fillq k n).set k (.int .i64 (k : Int)) = fillq (k + 1) n := by
  unfold fillq
  have e : n - k = (n - (k + 1)) + 1 := by omega
  rw [List.set_append_right _ _ (by simp), e, List.replicate_succ]
  simp [nums, List.range_succ]

set_option maxRecDepth 100000 in
set_option maxHeartbeats 1000000 in
theorem new_good (n : Nat) (h1 : 1 ≤ n) (h2 : n ≤ 64) (w : World) :
    Calls Try.prog 8 #[.int .i64 (n : Int)] w fun e w' => ∃ c d, e = .returned (.tuple #[.pointer (some ⟨w.heap.size + 2, 0, none⟩), .int .i64 0]) ∧ w.heap.size ≤ c ∧ w.heap.size ≤ d ∧
      Ar w' (w.heap.size + 2) c d n (List.replicate n (0, 0)) (List.range n) 0 ∧ Below w.heap.size w w' := by
  have hmk := fun w => run_make_row' (P := Try.prog) 53 3 (.int .i64 0) 8 Try.underlying53 info3 rfl .i64 .i64 n (by omega) (by omega) w
  have hm2 := fun w => run_make_struct 63 70 (.agg #[.int .i64 0, .int .i64 0]) 2 16 Try.underlying63 info70 .i64 .i64 n n (Nat.le_refl _) (by omega) (by omega) w
  have hmr := made_rows Slot.row 2 (by omega) (0, 0) #[.int .i64 0, .int .i64 0] rfl rfl n
  have hmz := made_zero n
  have hm3 : ∀ w : World, (Instr.makeSlice 63 (.int .i64 (n : Int)) (.int .i64 (n : Int))).run Try.prog w = .ok (.slice (some ⟨w.heap.size, 0, none⟩) n n) (w.alloc (.cells (rowsOf Slot.row (List.replicate n (0, 0))).toArray 70)) := by
    intro w
    rw [hm2 w, ← hmr]; rfl
  rw [hmz] at hmk
  have q1 : ¬ (n : Int) < 1 := by omega
  have q2 : ¬ (64 : Int) < (n : Int) := by omega
  have q3 : (1 : Int) ≤ (n : Int) := by omega
  have q4 : (n : Int) ≤ 64 := by omega
  clear hm2 hmr hmz
  go_enter Try.func8, Try.ntmps8
  go_wp2_with fail
  go_region
  · obtain ⟨V, hV, hsz, g0, g1, g2, hB⟩ := three w (.cells (rowsOf Slot.row (List.replicate n (0, 0))).toArray 70) (.cells (Array.replicate n (Value.int .i64 0)) 3) (.cells #[.slice (some ⟨w.heap.size, 0, none⟩) n n, .slice (some ⟨w.heap.size + 1, 0, none⟩) n n, .int .i64 0] 65)
    rw [hV]
    clear hV
    have hfq : V.heap[w.heap.size + 1]? = some (.cells (fillq 0 n).toArray 3) := by rw [g1, fillq_zero]; simp
    generalize hh : w.heap.size = h at *
    have HH := hide hh
    have x1 : V.cell? ⟨h + 2, 1, none⟩ = some (.slice (some ⟨h + 1, 0, none⟩) n n) := by rw [cell_of g2]; rfl
    have H0 := hide g0
    have H1 := hide hfq
    have H2 := hide g2
    clear g0 g1 g2 hfq hh hsz
    go_wp2_with fail
    go_loopw [23] (fun i wr => ∃ k : Nat, k ≤ n ∧ i = .int .i64 k ∧ wr.heap[h + 1]? = some (.cells (fillq k n).toArray 3) ∧ wr.heap[h]? = some (.cells (rowsOf Slot.row (List.replicate n (0, 0))).toArray 70) ∧ wr.heap[h + 2]? = some (.cells #[.slice (some ⟨h, 0, none⟩) n n, .slice (some ⟨h + 1, 0, none⟩) n n, .int .i64 0] 65) ∧ Below h w wr) (fun i _ => n - (intOf i).toNat)
    case atStart => exact ⟨0, Nat.zero_le _, rfl, unhide H1, unhide H0, unhide H2, hB⟩
    case round =>
      obtain ⟨k, hk, rfl, r1, r0, r2, hB1⟩ := hrel
      have y1 : wr.cell? ⟨h + 2, 1, none⟩ = some (.slice (some ⟨h + 1, 0, none⟩) n n) := by rw [cell_of r2]; rfl
      by_cases hkn : k < n
      · have j1 : (k : Int) < (n : Int) := by omega
        have j0 : (0 : Int) ≤ (k : Int) := by omega
        have y2 : wr.cell? ⟨h + 1, k, none⟩ = some (.int .i64 0) := by rw [cell_of r1, List.getElem?_toArray]; exact fillq_get k n hkn
        have yf : wr.frozen? ⟨h + 1, k, none⟩ = false := frozen_of r1 k
        have P : (wr.setCell ⟨h + 1, k, none⟩ (.int .i64 (k : Int))).heap[h + 1]? = some (.cells (fillq (k + 1) n).toArray 3) := by
          rw [heap_set r1, ← fillq_set k n hkn]; simp
        have P0 : (wr.setCell ⟨h + 1, k, none⟩ (.int .i64 (k : Int))).heap[h]? = some (.cells (rowsOf Slot.row (List.replicate n (0, 0))).toArray 70) := (Below.heap_setCell _ _ _ _ (by show h ≠ h + 1; omega)).trans r0
        have P2 := (Below.heap_setCell wr ⟨h + 1, k, none⟩ (.int .i64 (k : Int)) (h + 2) (by show h + 2 ≠ h + 1; omega)).trans r2
        have PB := hB1.setCell (p := ⟨h + 1, k, none⟩) (by show h ≤ h + 1; omega) (.int .i64 (k : Int))
        have K1 := hide P
        have K0 := hide P0
        have K2 := hide P2
        have KB := hide PB
        clear P P0 P2 PB r0 r1 r2 x1
        go_wp2_with fail
        go_roundw
        case rel => exact ⟨k + 1, by omega, by go_num, unhide K1, unhide K0, unhide K2, unhide KB⟩
        case measure => simp [intOf]; omega
      · obtain rfl : k = n := by omega
        rw [fillq_full] at r1
        have K1 := hide r1
        clear r1 x1
        go_wp2_with fail
        go_ret2
        refine ⟨h, h + 1, by rw [unhide HH]; rfl, by rw [unhide HH]; omega, by rw [unhide HH]; omega, ?_, by rw [unhide HH]; exact hB1⟩
        rw [unhide HH]
        exact ⟨by rw [List.length_range]; exact r2, r0, ⟨[], unhide K1, by simp⟩, by simp, ⟨by omega, by omega, by omega⟩, h1, h2⟩
  · obtain ⟨V, hV, hsz, g0, g1, g2, hB⟩ := three w (.cells (Array.replicate n (Value.int .i64 0)) 3) (.cells (rowsOf Slot.row (List.replicate n (0, 0))).toArray 70) (.cells #[.slice (some ⟨w.heap.size + 1, 0, none⟩) n n, .slice (some ⟨w.heap.size, 0, none⟩) n n, .int .i64 0] 65)
    rw [hV]
    clear hV
    have hfq : V.heap[w.heap.size]? = some (.cells (fillq 0 n).toArray 3) := by rw [g0, fillq_zero]; simp
    generalize hh : w.heap.size = h at *
    have HH := hide hh
    have x1 : V.cell? ⟨h + 2, 1, none⟩ = some (.slice (some ⟨h, 0, none⟩) n n) := by rw [cell_of g2]; rfl
    have H0 := hide g1
    have H1 := hide hfq
    have H2 := hide g2
    clear g0 g1 g2 hfq hh hsz
    go_wp2_with fail
    go_loopw [23] (fun i wr => ∃ k : Nat, k ≤ n ∧ i = .int .i64 k ∧ wr.heap[h]? = some (.cells (fillq k n).toArray 3) ∧ wr.heap[h + 1]? = some (.cells (rowsOf Slot.row (List.replicate n (0, 0))).toArray 70) ∧ wr.heap[h + 2]? = some (.cells #[.slice (some ⟨h + 1, 0, none⟩) n n, .slice (some ⟨h, 0, none⟩) n n, .int .i64 0] 65) ∧ Below h w wr) (fun i _ => n - (intOf i).toNat)
    case atStart => exact ⟨0, Nat.zero_le _, rfl, unhide H1, unhide H0, unhide H2, hB⟩
    case round =>
      obtain ⟨k, hk, rfl, r1, r0, r2, hB1⟩ := hrel
      have y1 : wr.cell? ⟨h + 2, 1, none⟩ = some (.slice (some ⟨h, 0, none⟩) n n) := by rw [cell_of r2]; rfl
      by_cases hkn : k < n
      · have j1 : (k : Int) < (n : Int) := by omega
        have j0 : (0 : Int) ≤ (k : Int) := by omega
        have y2 : wr.cell? ⟨h, k, none⟩ = some (.int .i64 0) := by rw [cell_of r1, List.getElem?_toArray]; exact fillq_get k n hkn
        have yf : wr.frozen? ⟨h, k, none⟩ = false := frozen_of r1 k
        have P : (wr.setCell ⟨h, k, none⟩ (.int .i64 (k : Int))).heap[h]? = some (.cells (fillq (k + 1) n).toArray 3) := by
          rw [heap_set r1, ← fillq_set k n hkn]; simp
        have P0 : (wr.setCell ⟨h, k, none⟩ (.int .i64 (k : Int))).heap[h + 1]? = some (.cells (rowsOf Slot.row (List.replicate n (0, 0))).toArray 70) := (Below.heap_setCell _ _ _ _ (by show h + 1 ≠ h; omega)).trans r0
        have P2 := (Below.heap_setCell wr ⟨h, k, none⟩ (.int .i64 (k : Int)) (h + 2) (by show h + 2 ≠ h; omega)).trans r2
        have PB := hB1.setCell (p := ⟨h, k, none⟩) (by show h ≤ h; omega) (.int .i64 (k : Int))
        have K1 := hide P
        have K0 := hide P0
        have K2 := hide P2
        have KB := hide PB
        clear P P0 P2 PB r0 r1 r2 x1
        go_wp2_with fail
        go_roundw
        case rel => exact ⟨k + 1, by omega, by go_num, unhide K1, unhide K0, unhide K2, unhide KB⟩
        case measure => simp [intOf]; omega
      · obtain rfl : k = n := by omega
        rw [fillq_full] at r1
        have K1 := hide r1
        clear r1 x1
        go_wp2_with fail
        go_ret2
        refine ⟨h + 1, h, by rw [unhide HH]; rfl, by rw [unhide HH]; omega, by rw [unhide HH]; omega, ?_, by rw [unhide HH]; exact hB1⟩
        rw [unhide HH]
        exact ⟨by rw [List.length_range]; exact r2, r0, ⟨[], unhide K1, by simp⟩, by simp, ⟨by omega, by omega, by omega⟩, h1, h2⟩
end Go.Proofs.Ytfhphamjalpjpaa
