/-
  The document's own Grace in its blocks: its struct, its readers' sections, the row of what waits, and a block of Booleans for each that waits; what a store leaves; the contracts of New and Enter.
-/
import Derived.Test.YtkgcgfnleabkdaaAsks
namespace Go.Proofs.Ytkgcgfnleabkdaa
open Go.RowKit
attribute [local go_sem ↓] Go.wp_at_zero Go.wp_at_succ

/-- But for the blocks rb and rc, and blocks of types 70 and 4, all that lay lies as it lay. -/
structure RFr (base rb rc : Nat) (w w' : World) : Prop where
  os : w'.os = w.os
  tape : w'.tape = w.tape
  output : w'.output = w.output
  size : w.heap.size ≤ w'.heap.size
  low : ∀ k, k < base → w'.heap[k]? = w.heap[k]?
  blk : ∀ (k : Nat) (o : Obj), w.heap[k]? = some o → k ≠ rb → k ≠ rc → (∀ cur, o ≠ .cells cur 70 (0, 0)) → (∀ cur, o ≠ .cells cur 4 (0, 0)) → w'.heap[k]? = some o
section
variable {base rb rc : Nat} {u v w w' : World}
theorem RFr.refl (base rb rc : Nat) (w : World) : RFr base rb rc w w := ⟨rfl, rfl, rfl, Nat.le_refl _, fun _ _ => rfl, fun _ _ h _ _ _ _ => h⟩
theorem RFr.trans (h : RFr base rb rc u v) (g : RFr base rb rc v w) : RFr base rb rc u w :=
  ⟨g.os.trans h.os, g.tape.trans h.tape, g.output.trans h.output, Nat.le_trans h.size g.size, fun k hk => (g.low k hk).trans (h.low k hk), fun k o h1 h2 h3 h4 h5 => g.blk k o (h.blk k o h1 h2 h3 h4 h5) h2 h3 h4 h5⟩
theorem RFr.of_below (h : Below w.heap.size w w') (hb : base ≤ w.heap.size) : RFr base rb rc w w' :=
  ⟨h.os, h.tape, h.output, h.size, fun k hk => h.block k (by omega), fun k _ hk _ _ _ _ => (h.block k (lt_of_heap hk)).trans hk⟩
theorem RFr.set (h : RFr base rb rc u w) {p : Addr} (hp : p.block = rb ∨ p.block = rc) (hb : base ≤ rb) (hc : base ≤ rc) (x : Value) : RFr base rb rc u (w.setCell p x) :=
  h.trans ⟨rfl, rfl, rfl, by simp [World.setCell], fun k hk => Below.heap_setCell _ _ _ _ (by rcases hp with e | e <;> omega), fun k o h1 h2 h3 _ _ => (Below.heap_setCell _ _ _ _ (by rcases hp with e | e <;> omega)).trans h1⟩
theorem RFr.below (h : RFr base rb rc w w') : Below base w w' := ⟨h.os, h.tape, h.output, h.size, h.low⟩
end

/-- So many bits, as cells. -/
def bl (n : Nat) (f : Nat → Bool) : List Value := (List.range n).map fun i => .bool (f i)
theorem bl_len (n : Nat) (f : Nat → Bool) : (bl n f).length = n := by simp [bl]
theorem bl_get (n : Nat) (f : Nat → Bool) (k : Nat) (h : k < n) : (bl n f)[k]? = some (.bool (f k)) := by simp [bl, h]
theorem bl_set (n : Nat) (f : Nat → Bool) (k : Nat) (x : Bool) : (bl n f).set k (.bool x) = bl n (put f k x) := by
  apply List.ext_getElem?
  intro i
  by_cases hi : i < n
  · rw [bl_get n _ i hi, List.getElem?_set]
    by_cases e : k = i
    · subst e; simp [put, bl_len, hi]
    · rw [if_neg e, bl_get n _ i hi]; simp [put]; intro e'; exact absurd e'.symm e
  · rw [List.getElem?_eq_none (by simp [bl_len]; omega), List.getElem?_eq_none (by simp [bl_len]; omega)]
theorem bl_congr {n : Nat} {f g : Nat → Bool} (h : ∀ k, k < n → f k = g k) : bl n f = bl n g := by
  unfold bl
  apply List.map_congr_left
  intro i hi
  rw [h i (List.mem_range.1 hi)]
theorem rises_cut {f : Nat → Bool} {n : Nat} (h : ∀ q, n ≤ q → f q = false) : ∀ m, rises f (n + m) = rises f n
  | 0 => rfl
  | m + 1 => by rw [Nat.add_succ, rises_no (h (n + m) (by omega)), rises_cut h m]
theorem rises_eight {f : Nat → Bool} {n : Nat} (hn : n ≤ 8) (h : ∀ q, n ≤ q → f q = false) : rises f n = rises f 8 := by
  have := rises_cut h (8 - n)
  rw [show n + (8 - n) = 8 by omega] at this
  exact this.symm
theorem rises_nil {f : Nat → Bool} : ∀ {k : Nat}, rises f k = [] → ∀ q, q < k → f q = false
  | 0, _, q, hq => by omega
  | k + 1, h, q, hq => by
    cases hk : f k with
    | true => rw [rises_yes hk] at h; simp at h
    | false =>
      rw [rises_no hk] at h
      by_cases e : q = k
      · rw [e]; exact hk
      · exact rises_nil h q (by omega)
theorem nil_rises {f : Nat → Bool} : ∀ {k : Nat}, (∀ q, q < k → f q = false) → rises f k = []
  | 0, _ => rfl
  | k + 1, h => by rw [rises_no (h k (by omega))]; exact nil_rises fun q hq => h q (by omega)
theorem none8_rises (f : Nat → Bool) : none8 f = true ↔ (rises f 8).length = 0 := by
  rw [none8_iff, List.length_eq_zero_iff]
  exact ⟨fun h => nil_rises h, fun h => rises_nil h⟩

abbrev Pr := Wt × Nat
def Rrow (n : Nat) (y : Pr) : List Value := [.int .i64 y.1.id, .slice (some ⟨y.2, 0, none⟩) n n]
theorem Rrow_length (n : Nat) (y : Pr) : (Rrow n y).length = 2 := rfl
theorem rows_ids {n : Nat} : ∀ {ps qs : List Pr}, ps.map (fun y => (y.1.id, y.2)) = qs.map (fun y => (y.1.id, y.2)) → rowsOf (Rrow n) ps = rowsOf (Rrow n) qs
  | [], [], _ => rfl
  | [], _ :: _, h => by simp at h
  | _ :: _, [], h => by simp at h
  | y :: ps, z :: qs, h => by
    simp only [List.map_cons, List.cons.injEq, Prod.mk.injEq] at h
    have := rows_ids (n := n) h.2
    simp only [rowsOf, List.flatMap_cons] at this ⊢
    rw [this]
    simp [Rrow, h.1.1, h.1.2]

/-- The document's Grace of n readers. -/
structure Rg (base : Nat) (W : World) (rb rc n : Nat) (ss : List Int) (ps : List Pr) : Prop where
  hb : ∃ a cap, W.heap[rb]? = some (.cells #[.slice (some ⟨rc, 0, none⟩) n n, .slice a ps.length cap] 67) ∧ W.ownsRow base 70 2 (.slice a ps.length cap) ps.length (rowsOf (Rrow n) ps)
  hc : W.heap[rc]? = some (.cells (ints ss).toArray 3)
  len : ss.length = n
  lo : 1 ≤ n
  hi : n ≤ 8
  kb : base ≤ rb
  kc : base ≤ rc
  wh : ∀ (i : Nat) (x : Wt) (g : Nat), ps[i]? = some (x, g) → W.heap[g]? = some (.cells (bl n x.on).toArray 4) ∧ base ≤ g
  nd : ∀ (i j : Nat) (x y : Wt) (g : Nat), ps[i]? = some (x, g) → ps[j]? = some (y, g) → i = j
  up : ∀ y ∈ ps, ∀ q, n ≤ q → y.1.on q = false

section
variable {base : Nat} {W : World} {rb rc n : Nat} {ss : List Int} {ps : List Pr}
theorem Rg.nb (h : Rg base W rb rc n ss ps) : rb ≠ rc := by
  obtain ⟨a, cap, h1, _⟩ := h.hb
  rintro rfl
  have := h.hc
  rw [h1] at this
  simp at this
theorem Rg.lt (h : Rg base W rb rc n ss ps) : rb < W.heap.size ∧ rc < W.heap.size := by
  obtain ⟨a, cap, h1, _⟩ := h.hb
  exact ⟨lt_of_heap h1, lt_of_heap h.hc⟩
theorem Rg.base_le (h : Rg base W rb rc n ss ps) : base ≤ W.heap.size := by have := h.lt; have := h.kb; omega
theorem Rg.keep {W' : World} (h : Rg base W rb rc n ss ps) (hk : ∀ (k : Nat) (cur : Array Value) (t : TypeId), W.heap[k]? = some (.cells cur t (0, 0)) → (k = rb ∨ k = rc ∨ t = 70 ∨ t = 4) → W'.heap[k]? = W.heap[k]?) : Rg base W' rb rc n ss ps := by
  obtain ⟨a, cap, h1, h2⟩ := h.hb
  exact ⟨⟨a, cap, (hk rb _ _ h1 (.inl rfl)).trans h1, own_keep h2 fun k cur hc => hk k cur 70 hc (.inr (.inr (.inl rfl)))⟩, (hk rc _ _ h.hc (.inr (.inl rfl))).trans h.hc, h.len, h.lo, h.hi, h.kb, h.kc, fun i x g hi => ⟨(hk g _ _ (h.wh i x g hi).1 (.inr (.inr (.inr rfl)))).trans (h.wh i x g hi).1, (h.wh i x g hi).2⟩, h.nd, h.up⟩
theorem Rg.below {W' : World} (h : Rg base W rb rc n ss ps) (g : Below W.heap.size W W') : Rg base W' rb rc n ss ps := h.keep fun k _ _ hk _ => g.block k (lt_of_heap hk)
theorem Rg.drew (h : Rg base W rb rc n ss ps) : Rg base W.drew rb rc n ss ps := h.keep fun _ _ _ _ _ => rfl
theorem Rg.dn (h : Rg base W rb rc n ss ps) (m : Nat) : Rg base (W.drewN m) rb rc n ss ps := h.keep fun _ _ _ _ _ => rfl
theorem Rg.cells (h : Rg base W rb rc n ss ps) : ∃ a cap, W.cell? ⟨rb, 0, none⟩ = some (.slice (some ⟨rc, 0, none⟩) n n) ∧ W.cell? ⟨rb, 1, none⟩ = some (.slice a ps.length cap) ∧ (∀ i, W.frozen? ⟨rb, i, none⟩ = false) ∧ (∀ i, W.frozen? ⟨rc, i, none⟩ = false) ∧ W.ownsRow base 70 2 (.slice a ps.length cap) ps.length (rowsOf (Rrow n) ps) := by
  obtain ⟨a, cap, h1, h2⟩ := h.hb
  refine ⟨a, cap, ?_, ?_, frozen_of h1, frozen_of h.hc, h2⟩ <;> rw [cell_of h1] <;> rfl
theorem Rg.sec (h : Rg base W rb rc n ss ps) {k : Nat} {s : Int} (hk : ss[k]? = some s) : W.cell? ⟨rc, k, none⟩ = some (.int .i64 s) := by
  rw [cell_of h.hc, List.getElem?_toArray]; simp [ints, hk]
theorem Rg.klt (h : Rg base W rb rc n ss ps) {k : Nat} {s : Int} (hk : ss[k]? = some s) : k < n := by
  have := (List.getElem?_eq_some_iff.1 hk).1
  rw [← h.len]; exact this
theorem Rg.get (h : Rg base W rb rc n ss ps) {k : Nat} (hk : k < n) : ∃ s, ss[k]? = some s := ⟨_, List.getElem?_eq_getElem (by rw [h.len]; exact hk)⟩
theorem Rg.setSec (h : Rg base W rb rc n ss ps) (k : Nat) (s : Int) : Rg base (W.setCell ⟨rc, k, none⟩ (.int .i64 s)) rb rc n (ss.set k s) ps := by
  obtain ⟨a, cap, h1, h2⟩ := h.hb
  have hnb := h.nb
  have ne : ∀ {k' : Nat} {cur : Array Value} {t : TypeId}, W.heap[k']? = some (.cells cur t (0, 0)) → t ≠ 3 → k' ≠ rc := by
    rintro k' cur t h3 h4 rfl
    rw [h.hc] at h3
    simp at h3
    exact h4 h3.2.symm
  refine ⟨⟨a, cap, (Below.heap_setCell _ _ _ _ hnb).trans h1, own_keep h2 fun k' cur hc' => Below.heap_setCell _ _ _ _ (ne hc' (by decide))⟩, ?_, by simp [h.len], h.lo, h.hi, h.kb, h.kc, fun i x g hi => ⟨(Below.heap_setCell _ _ _ _ (ne (h.wh i x g hi).1 (by decide))).trans (h.wh i x g hi).1, (h.wh i x g hi).2⟩, h.nd, h.up⟩
  rw [heap_set h.hc]; simp [ints, List.map_set]
/-- The cells of one that waits. -/
theorem rg_at {a : Option Addr} {cap : Nat} (own : W.ownsRow base 70 2 (.slice a ps.length cap) ps.length (rowsOf (Rrow n) ps)) {i : Nat} {x : Wt} {g : Nat} (hi : ps[i]? = some (x, g)) :
    ∃ bb, a = some ⟨bb, 0, none⟩ ∧ W.cell? ⟨bb, i * 2, none⟩ = some (.int .i64 x.id) ∧ W.cell? ⟨bb, i * 2 + 1, none⟩ = some (.slice (some ⟨g, 0, none⟩) n n) ∧ i < ps.length := by
  have h1 := (List.getElem?_eq_some_iff.1 hi).1
  obtain ⟨bb, cap', cur, e1, _, hg, _, _, _, hx⟩ := own_open own (by omega)
  simp only [Value.slice.injEq] at e1
  refine ⟨bb, e1.1, ?_, ?_, h1⟩
  · have := rowsOf_get (Rrow n) 2 (Rrow_length n) ps i 0 (x, g) hi (by omega)
    exact hx _ _ (by rw [show i * 2 = 2 * i + 0 by omega, this]; rfl)
  · have := rowsOf_get (Rrow n) 2 (Rrow_length n) ps i 1 (x, g) hi (by omega)
    exact hx _ _ (by rw [show i * 2 + 1 = 2 * i + 1 by omega, this]; rfl)
end

set_option maxHeartbeats 400000 in
theorem rnew (n : Nat) (h1 : 1 ≤ n) (h2 : n ≤ 8) (w : World) :
    Calls Try.prog 19 #[.int .i64 (n : Int)] w fun e w' => e = .returned (.pointer (some ⟨w.heap.size + 1, 0, none⟩)) ∧
      Rg w.heap.size w' (w.heap.size + 1) w.heap.size n (List.replicate n 0) [] ∧ Below w.heap.size w w' := by
  have hmk := fun w => run_make_row' (P := Try.prog) 31 3 (.int .i64 0) 8 Try.underlying31 info3 rfl .i64 .i64 n (by omega) (by omega) w
  rw [made_zero n] at hmk
  have q1 : (0 : Int) ≤ (n : Int) := by omega
  go_enter Try.func19, Try.ntmps19
  go_wp2_with fail
  go_ret
  have hB := ((Below.refl w.heap.size w).alloc (Nat.le_refl _) (.cells (List.replicate n (Value.int .i64 0)).toArray 3)).alloc (by simp) (.cells #[.slice (some ⟨w.heap.size, 0, none⟩) n n, .slice none 0 0] 67)
  simp only [List.toArray_replicate] at hB
  refine ⟨rfl, ⟨⟨none, 0, ?_, World.ownsRow_nil _ _ _ _⟩, ?_, by simp, h1, h2, by omega, by omega, by simp, by simp, by simp⟩, hB⟩
  · exact putAll _ _ (by simp)
  · rw [Below.heap_alloc _ _ _ (by simp)]
    rw [putAll _ _ rfl]; simp [ints]

set_option maxHeartbeats 400000 in
theorem renter_no (base : Nat) (rb rc n : Nat) (r : Int) (ss : List Int) (ps : List Pr) (w : World) (h : Rg base w rb rc n ss ps) (hr : r < 0 ∨ (n : Int) ≤ r) :
    Calls Try.prog 20 #[.pointer (some ⟨rb, 0, none⟩), .int .i64 r] w fun e w' => e = .returned (.int .i64 1) ∧ w' = w := by
  obtain ⟨a, cap, h0, h1, hf, hg, ho⟩ := h.cells
  clear h ho
  by_cases h3 : r < 0
  · clear hr
    go_enter Try.func20, Try.ntmps20
    go_wp2_with fail
    go_ret
    exact ⟨rfl, rfl⟩
  · have h4 : (n : Int) ≤ r := by omega
    clear hr
    go_enter Try.func20, Try.ntmps20
    go_wp2_with fail
    go_ret
    exact ⟨rfl, rfl⟩
set_option maxHeartbeats 400000 in
theorem renter_yes (base : Nat) (rb rc n k : Nat) (s : Int) (ss : List Int) (ps : List Pr) (w : World) (h : Rg base w rb rc n ss ps) (hk : ss[k]? = some s) (s0 : 0 ≤ s) (s1 : s ≤ 1000000) :
    Calls Try.prog 20 #[.pointer (some ⟨rb, 0, none⟩), .int .i64 (k : Int)] w fun e w' => e = .returned (.int .i64 0) ∧ Rg base w' rb rc n (ss.set k (s + 1)) ps ∧ RFr base rb rc w w' := by
  have hkn := h.klt hk
  obtain ⟨a, cap, h0, h1, hf, hg, ho⟩ := h.cells
  have hs := h.sec hk
  have k1 : (k : Int) < (n : Int) := by omega
  have k2 : (0 : Int) ≤ (k : Int) := by omega
  have k3 : ((n : Int) ≤ (k : Int)) = False := by simp; omega
  have HG := hide (h.setSec k (s + 1))
  have HB := hide h.kb
  have HC := hide h.kc
  clear h ho hk
  go_enter Try.func20, Try.ntmps20
  go_wp2_with fail
  go_ret
  exact ⟨rfl, unhide HG, (RFr.refl base rb rc w).set (p := ⟨rc, k, none⟩) (.inr rfl) (unhide HB) (unhide HC) _⟩
end Go.Proofs.Ytkgcgfnleabkdaa
