/-
  An arena in its three blocks: its struct, its slots (two cells each) and its list of free slots; what a walk is told of them, what a store leaves; the contracts of live, Stale and Left.
-/
import Derived.Test.YtfhphamjalpjpaaRows
import Derived.WalkKit
import Derived.WalkSpells
import Derived.Deep.RegionHeld3
import Derived.Deep.DrawnRows
import Derived.Deep.QuietTactic
import Derived.BigQuiet
import Derived.Deep.OwnRows
import Derived.Laws.CopyOwn
import Derived.ArgAppend
namespace Go.Proofs.Ytfhphamjalpjpaa
open Go.RowKit
attribute [local go_sem ↓] Go.wp_at_zero Go.wp_at_succ

theorem hide {p : Prop} (h : p) : Hid p := h
theorem unhide {p : Prop} (h : Hid p) : p := h
theorem putAll {w : World} (o : Obj) (h : Nat) (hh : h = w.heap.size) : (w.alloc o).heap[h]? = some o := by
  subst hh; exact heap_alloc_new w o

/-- But for the blocks b, c and d all that lay lies as it lay; no block has gone. -/
structure Fr (b c d : Nat) (w w' : World) : Prop where
  os : w'.os = w.os
  tape : w'.tape = w.tape
  output : w'.output = w.output
  size : w.heap.size ≤ w'.heap.size
  block : ∀ k, k < w.heap.size → k ≠ b → k ≠ c → k ≠ d → w'.heap[k]? = w.heap[k]?

theorem Fr.refl (b c d : Nat) (w : World) : Fr b c d w w := ⟨rfl, rfl, rfl, Nat.le_refl _, fun _ _ _ _ _ => rfl⟩
theorem Fr.trans {b c d : Nat} {u v w : World} (h : Fr b c d u v) (g : Fr b c d v w) : Fr b c d u w :=
  ⟨g.os.trans h.os, g.tape.trans h.tape, g.output.trans h.output, Nat.le_trans h.size g.size, fun k hk h1 h2 h3 => (g.block k (Nat.lt_of_lt_of_le hk h.size) h1 h2 h3).trans (h.block k hk h1 h2 h3)⟩
theorem Fr.of_below {b c d : Nat} {w w' : World} (h : Below w.heap.size w w') : Fr b c d w w' := ⟨h.os, h.tape, h.output, h.size, fun k hk _ _ _ => h.block k hk⟩
theorem Fr.alloc {b c d : Nat} {u w : World} (h : Fr b c d u w) (o : Obj) : Fr b c d u (w.alloc o) :=
  h.trans (.of_below ((Below.refl _ w).alloc (Nat.le_refl _) o))
theorem Fr.drew {b c d : Nat} {u w : World} (h : Fr b c d u w) : Fr b c d u w.drew := ⟨h.os, h.tape, h.output, h.size, h.block⟩
theorem Fr.set {b c d : Nat} {u w : World} (h : Fr b c d u w) {p : Addr} (hp : p.block = b ∨ p.block = c ∨ p.block = d) (v : Value) : Fr b c d u (w.setCell p v) :=
  h.trans ⟨rfl, rfl, rfl, by simp [World.setCell], fun k _ h1 h2 h3 => Below.heap_setCell _ _ _ _ (by rcases hp with e | e | e <;> omega)⟩
theorem Fr.setNew {b c d : Nat} {u w : World} (h : Fr b c d u w) {p : Addr} (hp : u.heap.size ≤ p.block) (v : Value) : Fr b c d u (w.setCell p v) :=
  ⟨h.os, h.tape, h.output, by have := h.size; simp [World.setCell]; omega, fun k hk h1 h2 h3 => (Below.heap_setCell _ _ _ _ (by omega)).trans (h.block k hk h1 h2 h3)⟩
theorem Fr.below {B b c d : Nat} {w w' : World} (h : Fr b c d w w') (hb : B ≤ b) (hc : B ≤ c) (hd : B ≤ d) (hB : B ≤ w.heap.size) : Below B w w' :=
  ⟨h.os, h.tape, h.output, h.size, fun k hk => h.block k (by omega) (by omega) (by omega) (by omega)⟩
theorem Fr.below_of {B b c d : Nat} {u w w' : World} (g : Below B u w) (h : Fr b c d w w') (hb : B ≤ b) (hc : B ≤ c) (hd : B ≤ d) (hB : B ≤ w.heap.size) : Below B u w' :=
  g.trans (h.below hb hc hd hB)

/-- Rows of one length, one behind the other. -/
def rowsOf {α : Type} (r : α → List Value) (ms : List α) : List Value := ms.flatMap r
theorem rowsOf_length {α : Type} (r : α → List Value) (k : Nat) (hr : ∀ x, (r x).length = k) (ms : List α) : (rowsOf r ms).length = k * ms.length := by
  induction ms with
  | nil => rfl
  | cons x l ih => simp only [rowsOf, List.flatMap_cons, List.length_append, List.length_cons] at *; rw [ih, hr, Nat.mul_succ]; omega
theorem rowsOf_get {α : Type} (r : α → List Value) (k : Nat) (hr : ∀ x, (r x).length = k) (ms : List α) (i f : Nat) (M : α) (hi : ms[i]? = some M) (hf : f < k) : (rowsOf r ms)[k * i + f]? = (r M)[f]? := by
  induction ms generalizing i with
  | nil => simp at hi
  | cons x l ih =>
    simp only [rowsOf, List.flatMap_cons]
    cases i with
    | zero => simp at hi; subst hi; rw [List.getElem?_append_left (by rw [hr]; omega)]; simp
    | succ j =>
      have := ih j (by simpa using hi)
      rw [List.getElem?_append_right (by rw [hr, Nat.mul_succ]; omega), hr, ← this]
      rw [Nat.mul_succ, show k * j + k + f - k = k * j + f by omega]; rfl
theorem rowsOf_set {α : Type} (r : α → List Value) (k : Nat) (hr : ∀ x, (r x).length = k) (ms : List α) (i f : Nat) (M M' : α) (v : Value) (hi : ms[i]? = some M) (hf : f < k) (he : r M' = (r M).set f v) :
    (rowsOf r ms).set (k * i + f) v = rowsOf r (ms.set i M') := by
  induction ms generalizing i with
  | nil => simp at hi
  | cons x l ih =>
    simp only [rowsOf, List.flatMap_cons]
    cases i with
    | zero => simp at hi; subst hi; rw [List.set_append_left _ _ (by rw [hr]; omega)]; simp [he]
    | succ j =>
      have := ih j (by simpa using hi)
      rw [List.set_append_right _ _ (by rw [hr, Nat.mul_succ]; omega), hr]
      rw [Nat.mul_succ, show k * j + k + f - k = k * j + f by omega]
      simp only [rowsOf] at this
      simp [this]

/-- The cells of a block that is known. -/
theorem cell_of {W : World} {b : Nat} {cs : Array Value} {t : TypeId} {f : Nat × Nat} (h : W.heap[b]? = some (.cells cs t f)) (i : Nat) : W.cell? ⟨b, i, none⟩ = cs[i]? := by
  simp [World.cell?, h]
theorem frozen_of {W : World} {b : Nat} {cs : Array Value} {t : TypeId} (h : W.heap[b]? = some (.cells cs t)) (i : Nat) : W.frozen? ⟨b, i, none⟩ = false := by
  simp [World.frozen?, h]
/-- A store into a block that is known. -/
theorem heap_set {W : World} {b : Nat} {cs : Array Value} {t : TypeId} {f : Nat × Nat} (h : W.heap[b]? = some (.cells cs t f)) (i : Nat) (v : Value) :
    (W.setCell ⟨b, i, none⟩ v).heap[b]? = some (.cells (cs.setIfInBounds i v) t f) := by
  obtain ⟨hl, he⟩ := Array.getElem?_eq_some_iff.1 h
  simp [World.setCell, Array.getElem?_modify, h]
/-- Rows in a block: what a store into one leaves. -/
theorem rows_put {α : Type} {r : α → List Value} {k : Nat} (hr : ∀ x, (r x).length = k) {W : World} {g : Nat} {xs : List α} {T : TypeId} (h : W.heap[g]? = some (.cells (rowsOf r xs).toArray T)) {i : Nat} {x : α} (hi : xs[i]? = some x) (f : Nat) (hf : f < k) (v : Value) (x' : α) (he : r x' = (r x).set f v) :
    (W.setCell ⟨g, i * k + f, none⟩ v).heap[g]? = some (.cells (rowsOf r (xs.set i x')).toArray T) := by
  rw [heap_set h _ v, Nat.mul_comm i k, ← rowsOf_set r k hr xs i f x x' v hi hf he]
  simp
theorem rows_cell {α : Type} {r : α → List Value} {k : Nat} (hr : ∀ x, (r x).length = k) {W : World} {g : Nat} {xs : List α} {T : TypeId} (h : W.heap[g]? = some (.cells (rowsOf r xs).toArray T)) {i : Nat} {x : α} (hi : xs[i]? = some x) (f : Nat) (hf : f < k) :
    W.cell? ⟨g, i * k + f, none⟩ = (r x)[f]? := by
  rw [cell_of h, List.getElem?_toArray, Nat.mul_comm i k]
  exact rowsOf_get r k hr xs i f x hi hf
theorem get_set {α : Type} {xs : List α} {i : Nat} {x : α} (hi : xs[i]? = some x) (y : α) : (xs.set i y)[i]? = some y := by
  have := (List.getElem?_eq_some_iff.1 hi).1
  simp [this]

/-- A slot: its generation and what it holds. -/
abbrev Slot := Int × Int
def Slot.row (s : Slot) : List Value := [.int .i64 s.1, .int .i64 s.2]
theorem Slot.row_length (s : Slot) : (Slot.row s).length = 2 := rfl
abbrev nums (q : List Nat) : List Value := q.map (fun k : Nat => Value.int .i64 (k : Int))

/-- An arena of n slots: its struct in block b, its slots in c, its free ones in d. -/
structure Ar (W : World) (b c d n : Nat) (gs : List Slot) (q : List Nat) (st : Int) : Prop where
  hb : W.heap[b]? = some (.cells #[.slice (some ⟨c, 0, none⟩) n n, .slice (some ⟨d, 0, none⟩) q.length n, .int .i64 st] 65)
  hc : W.heap[c]? = some (.cells (rowsOf Slot.row gs).toArray 70)
  hd : ∃ rest : List Value, W.heap[d]? = some (.cells (nums q ++ rest).toArray 3) ∧ q.length + rest.length = n
  len : gs.length = n
  nb : b ≠ c ∧ b ≠ d ∧ c ≠ d
  lo : 1 ≤ n
  hi : n ≤ 64

theorem lt_of_heap {W : World} {k : Nat} {o : Obj} (e : W.heap[k]? = some o) : k < W.heap.size := (Array.getElem?_eq_some_iff.1 e).1
theorem Ar.lt {W : World} {b c d n : Nat} {gs : List Slot} {q : List Nat} {st : Int} (h : Ar W b c d n gs q st) : b < W.heap.size ∧ c < W.heap.size ∧ d < W.heap.size := by
  obtain ⟨r, hr, _⟩ := h.hd
  exact ⟨lt_of_heap h.hb, lt_of_heap h.hc, lt_of_heap hr⟩
theorem Ar.of {W W' : World} {b c d n : Nat} {gs : List Slot} {q : List Nat} {st : Int} (h : Ar W b c d n gs q st) (e1 : W'.heap[b]? = W.heap[b]?) (e2 : W'.heap[c]? = W.heap[c]?) (e3 : W'.heap[d]? = W.heap[d]?) : Ar W' b c d n gs q st := by
  obtain ⟨r, hr, hl⟩ := h.hd
  exact ⟨e1.trans h.hb, e2.trans h.hc, ⟨r, e3.trans hr, hl⟩, h.len, h.nb, h.lo, h.hi⟩
theorem Ar.below {W W' : World} {b c d n : Nat} {gs : List Slot} {q : List Nat} {st : Int} (h : Ar W b c d n gs q st) (g : Below W.heap.size W W') : Ar W' b c d n gs q st :=
  h.of (g.block _ h.lt.1) (g.block _ h.lt.2.1) (g.block _ h.lt.2.2)
theorem Ar.alloc {W : World} {b c d n : Nat} {gs : List Slot} {q : List Nat} {st : Int} (h : Ar W b c d n gs q st) (o : Obj) : Ar (W.alloc o) b c d n gs q st :=
  h.below ((Below.refl _ W).alloc (Nat.le_refl _) o)
theorem Ar.drew {W : World} {b c d n : Nat} {gs : List Slot} {q : List Nat} {st : Int} (h : Ar W b c d n gs q st) : Ar W.drew b c d n gs q st := h.of rfl rfl rfl
theorem Ar.setNew {W : World} {b c d n : Nat} {gs : List Slot} {q : List Nat} {st : Int} (h : Ar W b c d n gs q st) {p : Addr} (h1 : p.block ≠ b) (h2 : p.block ≠ c) (h3 : p.block ≠ d) (v : Value) : Ar (W.setCell p v) b c d n gs q st :=
  h.of (Below.heap_setCell _ _ _ _ (Ne.symm h1)) (Below.heap_setCell _ _ _ _ (Ne.symm h2)) (Below.heap_setCell _ _ _ _ (Ne.symm h3))
theorem Ar.cells {W : World} {b c d n : Nat} {gs : List Slot} {q : List Nat} {st : Int} (h : Ar W b c d n gs q st) :
    W.cell? ⟨b, 0, none⟩ = some (.slice (some ⟨c, 0, none⟩) n n) ∧ W.cell? ⟨b, 1, none⟩ = some (.slice (some ⟨d, 0, none⟩) q.length n) ∧ W.cell? ⟨b, 2, none⟩ = some (.int .i64 st) ∧ ∀ i, W.frozen? ⟨b, i, none⟩ = false := by
  refine ⟨?_, ?_, ?_, frozen_of h.hb⟩ <;> rw [cell_of h.hb] <;> rfl
theorem Ar.slot {W : World} {b c d n : Nat} {gs : List Slot} {q : List Nat} {st : Int} (h : Ar W b c d n gs q st) {k : Nat} {g v : Int} (hk : gs[k]? = some (g, v)) :
    W.cell? ⟨c, k * 2, none⟩ = some (.int .i64 g) ∧ W.cell? ⟨c, k * 2 + 1, none⟩ = some (.int .i64 v) ∧ ∀ i, W.frozen? ⟨c, i, none⟩ = false :=
  ⟨rows_cell Slot.row_length h.hc hk 0 (by omega), rows_cell Slot.row_length h.hc hk 1 (by omega), frozen_of h.hc⟩
theorem Ar.klt {W : World} {b c d n : Nat} {gs : List Slot} {q : List Nat} {st : Int} (h : Ar W b c d n gs q st) {k : Nat} {s : Slot} (hk : gs[k]? = some s) : k < n := by
  have := (List.getElem?_eq_some_iff.1 hk).1
  rw [← h.len]; exact this
theorem Ar.qle {W : World} {b c d n : Nat} {gs : List Slot} {q : List Nat} {st : Int} (h : Ar W b c d n gs q st) : q.length ≤ n := by
  obtain ⟨r, _, hl⟩ := h.hd; omega
theorem Ar.get {W : World} {b c d n : Nat} {gs : List Slot} {q : List Nat} {st : Int} (h : Ar W b c d n gs q st) {k : Nat} (hk : k < n) : ∃ g v, gs[k]? = some (g, v) :=
  ⟨_, _, List.getElem?_eq_getElem (by rw [h.len]; exact hk)⟩

/-- Stores into the arena's own blocks. -/
theorem Ar.setGen {W : World} {b c d n : Nat} {gs : List Slot} {q : List Nat} {st : Int} (h : Ar W b c d n gs q st) {k : Nat} {g v : Int} (hk : gs[k]? = some (g, v)) (g' : Int) : Ar (W.setCell ⟨c, k * 2, none⟩ (.int .i64 g')) b c d n (gs.set k (g', v)) q st := by
  obtain ⟨r, hr, hl⟩ := h.hd
  obtain ⟨n1, n2, n3⟩ := h.nb
  exact ⟨(Below.heap_setCell _ _ _ _ n1).trans h.hb, rows_put Slot.row_length h.hc hk 0 (by omega) _ (g', v) rfl, ⟨r, (Below.heap_setCell _ _ _ _ (Ne.symm n3)).trans hr, hl⟩, by simp [h.len], h.nb, h.lo, h.hi⟩
theorem Ar.setVal {W : World} {b c d n : Nat} {gs : List Slot} {q : List Nat} {st : Int} (h : Ar W b c d n gs q st) {k : Nat} {g v : Int} (hk : gs[k]? = some (g, v)) (v' : Int) : Ar (W.setCell ⟨c, k * 2 + 1, none⟩ (.int .i64 v')) b c d n (gs.set k (g, v')) q st := by
  obtain ⟨r, hr, hl⟩ := h.hd
  obtain ⟨n1, n2, n3⟩ := h.nb
  exact ⟨(Below.heap_setCell _ _ _ _ n1).trans h.hb, rows_put Slot.row_length h.hc hk 1 (by omega) _ (g, v') rfl, ⟨r, (Below.heap_setCell _ _ _ _ (Ne.symm n3)).trans hr, hl⟩, by simp [h.len], h.nb, h.lo, h.hi⟩
theorem Ar.setStale {W : World} {b c d n : Nat} {gs : List Slot} {q : List Nat} {st : Int} (h : Ar W b c d n gs q st) (st' : Int) : Ar (W.setCell ⟨b, 2, none⟩ (.int .i64 st')) b c d n gs q st' := by
  obtain ⟨r, hr, hl⟩ := h.hd
  obtain ⟨n1, n2, n3⟩ := h.nb
  exact ⟨heap_set h.hb 2 _, (Below.heap_setCell _ _ _ _ (Ne.symm n1)).trans h.hc, ⟨r, (Below.heap_setCell _ _ _ _ (Ne.symm n2)).trans hr, hl⟩, h.len, h.nb, h.lo, h.hi⟩

set_option maxHeartbeats 400000 in
theorem live_yes (p : Addr) (g : Int) (w : World) (h : w.cell? p = some (.int .i64 g)) (h0 : 0 ≤ g) (h1 : g % 2 = 1) :
    Calls Try.prog 30 #[.pointer (some p)] w fun e w' => e = .returned (.bool true) ∧ w' = w := by
  have t : g.tmod 2 = 1 := by rw [Int.tmod_eq_emod_of_nonneg h0]; exact h1
  clear h1
  go_enter Try.func30, Try.ntmps30
  go_wp2
  go_ret
  exact ⟨rfl, rfl⟩
set_option maxHeartbeats 400000 in
theorem live_no (p : Addr) (g : Int) (w : World) (h : w.cell? p = some (.int .i64 g)) (h0 : 0 ≤ g) (h1 : ¬ g % 2 = 1) :
    Calls Try.prog 30 #[.pointer (some p)] w fun e w' => e = .returned (.bool false) ∧ w' = w := by
  have t : g.tmod 2 = 0 := by rw [Int.tmod_eq_emod_of_nonneg h0]; omega
  clear h1
  go_enter Try.func30, Try.ntmps30
  go_wp2
  go_ret
  exact ⟨rfl, rfl⟩
set_option maxHeartbeats 400000 in
theorem stale_any (b c d n : Nat) (gs : List Slot) (q : List Nat) (st : Int) (w : World) (h : Ar w b c d n gs q st) :
    Calls Try.prog 13 #[.pointer (some ⟨b, 0, none⟩)] w fun e w' => e = .returned (.int .i64 st) ∧ w' = w := by
  obtain ⟨h0, h1, h2, hf⟩ := h.cells
  go_enter Try.func13, Try.ntmps13
  go_wp2
  go_ret
  exact ⟨rfl, rfl⟩
set_option maxHeartbeats 400000 in
theorem left_any (b c d n : Nat) (gs : List Slot) (q : List Nat) (st : Int) (w : World) (h : Ar w b c d n gs q st) (l : Nat) (hl : q.length = l) :
    Calls Try.prog 14 #[.pointer (some ⟨b, 0, none⟩)] w fun e w' => e = .returned (.int .i64 (l : Int)) ∧ w' = w := by
  obtain ⟨h0, h1, h2, hf⟩ := h.cells
  rw [hl] at h1
  go_enter Try.func14, Try.ntmps14
  go_wp2
  go_ret
  exact ⟨rfl, rfl⟩
end Go.Proofs.Ytfhphamjalpjpaa
