/-
  NameSlashes: a path of slashes alone is the root; a name between them is one part.
-/
import Derived.Test.YtnhddendkolfeaaKnown
namespace Go.Proofs.Ytnhddendkolfeaa
open Go.RowKit
attribute [local go_sem ↓] Go.wp_at_zero Go.wp_at_succ

/-- So many slashes; a letter among them. -/
def bars (n : Nat) : List UInt8 := List.replicate n 47
def among (n k : Nat) : List UInt8 := (bars n).set k 120
theorem bars_parts (n : Nat) : parts (bars n) = [] := by
  unfold bars
  induction n with
  | zero => rfl
  | succ n ih => rw [List.replicate_succ, parts_slash, ih]
theorem bars_len (n : Nat) : (bars n).length = n := by simp [bars]
theorem bars_err {n : Nat} (h : n ≠ 0) (h1 : n ≤ 4096) : err (bars n) = 0 := by
  refine err_of (by intro e; have := bars_len n; rw [e] at this; simp at this; omega) (by rw [bars_len]; exact h1) ?_ (by rw [bars_parts]; simp)
  intro e
  have := List.eq_of_mem_replicate e
  exact absurd this (by decide)
theorem bars_long {n : Nat} (h : 4096 < n) : err (bars n) = 45 := by
  unfold err
  rw [if_neg (by intro e; have := bars_len n; rw [e] at this; simp at this; omega), if_pos (by rw [bars_len]; exact h)]
theorem bars_rt {n : Nat} (h : n ≠ 0) (h1 : n ≤ 4096) : rt (bars n) = true := by
  unfold rt
  rw [bars_err h h1]
  obtain ⟨m, rfl⟩ : ∃ m, n = m + 1 := ⟨n - 1, by omega⟩
  unfold bars
  rw [List.replicate_succ, prefix_cons]; rfl
theorem bars_sl {n : Nat} (h : n ≠ 0) (h1 : n ≤ 4096) : sl (bars n) = true := by
  unfold sl
  rw [bars_err h h1]
  obtain ⟨m, rfl⟩ : ∃ m, n = m + 1 := ⟨n - 1, by omega⟩
  unfold bars
  rw [List.replicate_succ', suffix_app]; rfl
theorem bars_ps {n : Nat} (h : n ≠ 0) (h1 : n ≤ 4096) : ps (bars n) = [] := by
  unfold ps; rw [bars_err h h1, bars_parts]; simp
theorem among_eq {n k : Nat} (h : k < n) : among n k = bars k ++ 120 :: bars (n - 1 - k) := by
  obtain ⟨m, rfl⟩ : ∃ m, n = k + 1 + m := ⟨n - (k + 1), by omega⟩
  unfold among bars
  rw [show k + 1 + m - 1 - k = m by omega, show k + 1 + m = k + (m + 1) by omega, ← List.replicate_append_replicate, List.set_append_right _ _ (by simp)]
  simp [List.replicate_succ]
theorem among_parts {n k : Nat} (h : k < n) : parts (among n k) = [[120]] := by
  rw [among_eq h]
  have e1 : parts (120 :: bars (n - 1 - k)) = [[120]] := by
    cases n - 1 - k with
    | zero => decide +kernel
    | succ j =>
      have : (120 :: bars (j + 1) : List UInt8) = [120] ++ 47 :: bars j := by simp [bars, List.replicate_succ]
      rw [this, parts_app, bars_parts, parts_plain (by decide)]; simp [piece]
  generalize (120 :: bars (n - 1 - k) : List UInt8) = r at e1
  clear h
  induction k with
  | zero => simpa [bars] using e1
  | succ k ih =>
    have : bars (k + 1) = 47 :: bars k := by simp [bars, List.replicate_succ]
    rw [this, List.cons_append, parts_slash]; exact ih
theorem among_len (n k : Nat) : (among n k).length = n := by simp [among, bars_len]
theorem among_err {n k : Nat} (h : k < n) (h1 : n ≤ 4096) : err (among n k) = 0 := by
  refine err_of (by intro e; have := among_len n k; rw [e] at this; simp at this; omega) (by rw [among_len]; exact h1) ?_ (by rw [among_parts h]; simp)
  rw [among_eq h]
  intro e
  rcases List.mem_append.1 e with e | e
  · exact absurd (List.eq_of_mem_replicate e) (by decide)
  · rcases List.mem_cons.1 e with e | e
    · exact absurd e (by decide)
    · exact absurd (List.eq_of_mem_replicate e) (by decide)
theorem among_ps {n k : Nat} (h : k < n) (h1 : n ≤ 4096) : ps (among n k) = [[120]] := by
  unfold ps; rw [among_err h h1, among_parts h]; simp
theorem among_rt {n k : Nat} (h : k < n) (h1 : n ≤ 4096) : rt (among n k) = decide (0 < k) := by
  unfold rt
  rw [among_err h h1, among_eq h]
  cases k with
  | zero => simp [bars, prefix_cons]
  | succ j => simp [bars, List.replicate_succ]
theorem among_sl {n k : Nat} (h : k < n) (h1 : n ≤ 4096) : sl (among n k) = decide (k < n - 1) := by
  unfold sl
  rw [among_err h h1, among_eq h]
  by_cases hk : k < n - 1
  · obtain ⟨m, hm⟩ : ∃ m, n - 1 - k = m + 1 := ⟨n - 1 - k - 1, by omega⟩
    have e : bars k ++ 120 :: bars (m + 1) = (bars k ++ 120 :: bars m) ++ [47] := by simp [bars, List.replicate_succ']
    rw [hm, e, suffix_app]; simp [hk]
  · have hm : n - 1 - k = 0 := by omega
    have e : bars k ++ 120 :: bars 0 = bars k ++ [120] := by simp [bars]
    rw [hm, e, suffix_app]; simp [hk]
theorem within_nat (v : Int) (hi : Nat) (w : World) (h1 : hi ≤ 5000) : Calls Try.prog 22 #[.int .i64 v, .int .i64 0, .int .i64 (hi : Int)] w fun e w' => (∃ r : Nat, r ≤ hi ∧ e = .returned (.int .i64 (r : Int))) ∧ w' = w := by
  refine (within_any v (hi : Int) w (by omega) (by omega)).mono ?_
  rintro e w' ⟨⟨r, h1, h2, rfl⟩, rfl⟩
  obtain ⟨k, rfl⟩ : ∃ k : Nat, r = (k : Int) := ⟨r.toNat, by omega⟩
  exact ⟨⟨k, by omega, rfl⟩, rfl⟩
theorem row1 {W : World} (x : List UInt8) : ∃ W', W.alloc (.cells #[S x] 9) = W' ∧ Below W.heap.size W W' ∧ RowO W' (some ⟨W.heap.size, 0, none⟩) [x] := by
  obtain ⟨W', h1, h2, h3⟩ := box (W := W) (.cells #[S x] 9)
  refine ⟨W', h1, h2, fun k s hk => ⟨W.heap.size, 0, rfl, lt_of_heap h3, ?_⟩⟩
  rw [cell_of h3]
  match k, hk with
  | 0, hk => simp at hk; subst hk; rfl
set_option maxRecDepth 100000 in
set_option maxHeartbeats 2000000 in
theorem slashes_walk (a b : Int) (w : World) : Calls Try.prog 8 #[.int .i64 a, .int .i64 b] w fun e w' => e = .returned (.bool true) ∧ Below w.heap.size w w' := by
  go_enter Try.func8, Try.ntmps8
  go_wp2_with fail
  refine (within_nat a 4200 w (by omega)).mono ?_
  rintro e w' ⟨⟨n0, hn0, rfl⟩, rfl⟩
  go_wp2_with fail
  have e1 : (1 + (n0 : Int)) = ((n0 + 1 : Nat) : Int) := by omega
  rw [e1]
  generalize hnn : n0 + 1 = n
  have hn1 : n ≠ 0 := by omega
  have hn2 : n ≤ 4201 := by omega
  clear e1 hnn hn0
  refine (within_nat b 4200 _ (by omega)).mono ?_
  rintro e w' ⟨⟨m, hm, rfl⟩, rfl⟩
  have hm1 := make_run n (by omega) w'
  have HB := hide ((Below.refl w'.heap.size w').alloc (Nat.le_refl _) (.cells (byteRow (List.replicate n 0)) 5))
  have HP := hide (putAll (w := w') (.cells (byteRow (List.replicate n 0)) 5) _ rfl)
  obtain ⟨w1, hw1⟩ : ∃ w1, w'.alloc (.cells (byteRow (List.replicate n 0)) 5) = w1 := ⟨_, rfl⟩
  rw [hw1] at hm1 HB HP
  generalize hgg : w'.heap.size = g at *
  replace hgg := hide hgg
  clear hw1
  go_wp2_with fail
  clear hm1
  go_loopw [6] (fun i wr => ∃ k : Nat, k ≤ n ∧ i = .int .i64 k ∧ wr.heap[g]? = some (.cells (byteRow (List.replicate k 47 ++ List.replicate (n - k) 0)) 5) ∧ Below g w' wr) (fun i _ => n - (intOf i).toNat)
  case atStart => exact ⟨0, by omega, rfl, by simpa using unhide HP, unhide HB⟩
  case round =>
    obtain ⟨k, hk, rfl, hg, hB⟩ := hrel
    by_cases hlt : k < n
    · have j0 : (0 : Int) ≤ (k : Int) := by omega
      have j1 : (k : Int) < (n : Int) := by omega
      have c0 : wr.cell? ⟨g, k, none⟩ = some (.int .u8 0) := by rw [cell_of hg]; exact byte_get (rep_get n k 47 0 hlt)
      have cf : wr.frozen? ⟨g, k, none⟩ = false := frozen_of hg k
      have hg2 := hide ((heap_set hg k (.int .u8 47)).trans (by rw [show (Value.int .u8 47) = .int .u8 ((47 : UInt8).toNat : Int) from rfl, byte_set, rep_set n k 47 0 hlt]))
      have hB2 := hide (hB.setCell (p := ⟨g, k, none⟩) (Nat.le_refl _) (.int .u8 47))
      clear hg hB
      go_wp2_with fail
      exact ⟨⟨k + 1, by omega, rfl, unhide hg2, unhide hB2⟩, by simp [intOf]; omega⟩
    · obtain rfl : k = n := by omega
      have j1 : ¬ (k : Int) < (k : Int) := by omega
      rw [Nat.sub_self, List.replicate_zero, List.append_nil] at hg
      change wr.heap[g]? = some (.cells (byteRow (bars k)) 5) at hg
      have hc := conv_run (bars k) k (bars_len k) g k wr hg
      have Z := hide hB
      have hG := hide hg
      clear hg hB HB HP
      go_wp2_with fail
      by_cases hl : 4096 < k
      · refine (read_P (bars k) _).mono ?_
        have e0 := bars_long hl
        have e1 : rt (bars k) = false := by simp [rt, e0]
        rw [e0, e1]
        rintro e w2 ⟨a2, cap2, rfl, r2, B2⟩
        obtain ⟨w3, hw3, B3, P3⟩ := pbox (r := false) (s := sl (bars k)) (n := (ps (bars k)).length) (cap := cap2) r2
        have hgs := unhide hgg
        replace Z := hide ((Below.trans (unhide Z) (B2.mono (by have := (unhide Z).size; omega))).trans (B3.mono (by have := (unhide Z).size; have := B2.size; omega)))
        obtain ⟨c0, c1, c2⟩ := P3.cells
        have hl2 : (4096 : Int) < (k : Int) := by omega
        clear hc P3 r2 B2 B3 e0 e1 hgs
        go_wp2_with fail
        refine (known_any _).mono ?_
        rintro e w4 ⟨rfl, B4⟩
        have hgs := Nat.le_of_eq (unhide hgg).symm
        replace Z := hide (Below.step (unhide Z) B4 hgs)
        clear B4 hgs
        go_wp2_with fail
        go_ret
        exact ⟨rfl, by rw [unhide hgg]; exact unhide Z⟩
      · have hgs := Nat.le_of_eq (unhide hgg).symm
        refine (read_P (bars k) _).mono ?_
        rw [bars_err hn1 (by omega), bars_rt hn1 (by omega), bars_sl hn1 (by omega), bars_ps hn1 (by omega)]
        rintro e w2 ⟨a2, cap2, rfl, r2, B2⟩
        obtain ⟨w3, hw3, B3, P3⟩ := pbox (r := true) (s := true) (n := 0) (cap := cap2) r2
        have hg3 : w3.heap[g]? = some (.cells (byteRow (bars k)) 5) := by
          have h1 := lt_of_heap (unhide hG)
          have h2 := B2.size
          rw [B3.block g (by omega), B2.block g h1]
          exact unhide hG
        replace Z := Below.step (Below.step (unhide Z) B2 hgs) B3 hgs
        obtain ⟨c0, c1, c2⟩ := P3.cells
        have hl2 : ¬ (4096 : Int) < (k : Int) := by omega
        have hk0 : ¬ (k : Int) = 0 := by omega
        have hjk : m % k < k := Nat.mod_lt _ (by omega)
        have hT : Int.tmod (m : Int) (k : Int) = ((m % k : Nat) : Int) := Int.ofNat_tmod m k
        generalize m % k = j at *
        have j0 : (0 : Int) ≤ (j : Int) := by omega
        have j1 : (j : Int) < (k : Int) := by omega
        have d0 : w3.cell? ⟨g, j, none⟩ = some (.int .u8 47) := by
          rw [cell_of hg3]
          exact byte_get (l := bars k) (c := 47) (by simp [bars, hjk])
        have df : w3.frozen? ⟨g, j, none⟩ = false := frozen_of hg3 j
        have hg4 : (w3.setCell ⟨g, j, none⟩ (.int .u8 120)).heap[g]? = some (.cells (byteRow (among k j)) 5) := by
          rw [heap_set hg3, show (Value.int .u8 120) = .int .u8 ((120 : UInt8).toNat : Int) from rfl, byte_set]; rfl
        have hc2 := conv_run (among k j) k (among_len k j) g k (w3.setCell ⟨g, j, none⟩ (.int .u8 120)) hg4
        replace Z := hide (Z.setCell (p := ⟨g, j, none⟩) (Nat.le_refl _) (.int .u8 120))
        have ek : (((k : Nat) : Int) - 1) = (k : Int) - 1 := rfl
        have f1 : rt (among k j) = decide ((0 : Int) < (j : Int)) := by rw [among_rt hjk (by omega)]; congr 1; simp
        have f2 : sl (among k j) = decide ((j : Int) < (k : Int) - 1) := by rw [among_sl hjk (by omega)]; congr 1; simp; omega
        have R := read_P (among k j) (w3.setCell ⟨g, j, none⟩ (.int .u8 120))
        rw [among_err hjk (by omega), among_ps hjk (by omega)] at R
        generalize rt (among k j) = br at *
        generalize sl (among k j) = bl at *
        replace f1 : decide (0 < j) = br := by rw [f1]; congr 1; simp
        replace f2 : decide ((j : Int) < (k : Int) - 1) = bl := f2.symm
        replace R := hide R
        clear hc P3 r2 B2 B3 hg3 hg4 hG hgs ek hjk hm hl
        go_wp2_with fail
        refine (unhide R).mono ?_
        rintro e w4 ⟨a4, cap4, rfl, r4, B4⟩
        obtain ⟨w5, hw5, B5, P5⟩ := pbox (r := br) (s := bl) (n := 1) (cap := cap4) r4
        have hgs := Nat.le_of_eq (unhide hgg).symm
        obtain ⟨g0, g1, g2⟩ := P5.cells
        obtain ⟨w6, hw6, B6, R6⟩ := row1 (W := w5) [120]
        have H := hide (same_yes a4 (some ⟨w5.heap.size, 0, none⟩) cap4 1 1 [[120]] rfl (by omega) w6 (P5.rw.below B6) R6)
        have z0 := (World.cell?_of_block (a := ⟨w4.heap.size, 0, none⟩) (B6.block _ (lt_of_heap P5.bx))).trans g0
        have z1 := (World.cell?_of_block (a := ⟨w4.heap.size, 1, none⟩) (B6.block _ (lt_of_heap P5.bx))).trans g1
        have P6 := hide (P5.below B6)
        replace Z := hide (Below.step (Below.step (Below.step (unhide Z) B4 hgs) B5 hgs) B6 hgs)
        clear r4 B4 B5 B6 R6 P5 hgs R c0 c1 c2 d0 df hc2
        go_wp2_with fail
        refine (unhide H).mono ?_
        rintro e w7 ⟨rfl, B7⟩
        have P7 := (unhide P6).below B7
        obtain ⟨y0, y1, -⟩ := P7.cells
        have hgs := Nat.le_of_eq (unhide hgg).symm
        replace Z := hide (Below.step (unhide Z) B7 hgs)
        clear B7 hgs P7 z0 z1 g0 g1 g2 P6 H
        go_wp2_with fail
        refine (known_any _).mono ?_
        rintro e w8 ⟨rfl, B8⟩
        have hgs := Nat.le_of_eq (unhide hgg).symm
        replace Z := hide (Below.step (unhide Z) B8 hgs)
        clear B8 hgs
        go_wp2_with fail
        go_ret
        exact ⟨rfl, by rw [unhide hgg]; exact unhide Z⟩
end Go.Proofs.Ytnhddendkolfeaa
