/-
  A list in its two blocks: its struct and the row of its entries (two cells each); what a walk is told of them, what a store leaves; the contracts of New, Len, pinned and byUse.
-/
import Derived.Test.YtjcjibjagjiedaaRows
import Derived.WalkKit
import Derived.WalkSpells
import Derived.Deep.RegionHeld3
import Derived.Deep.DrawnRows
import Derived.Deep.QuietTactic
import Derived.BigQuiet
import Derived.Deep.OwnRows
import Derived.Laws.CopyOwn
import Derived.ArgAppend
namespace Go.Proofs.Ytjcjibjagjiedaa
open Go.RowKit
attribute [local go_sem ↓] Go.wp_at_zero Go.wp_at_succ

theorem hide {p : Prop} (h : p) : Hid p := h
theorem unhide {p : Prop} (h : Hid p) : p := h
theorem putAll {w : World} (o : Obj) (h : Nat) (hh : h = w.heap.size) : (w.alloc o).heap[h]? = some o := by
  subst hh; exact heap_alloc_new w o
theorem lt_of_heap {W : World} {k : Nat} {o : Obj} (e : W.heap[k]? = some o) : k < W.heap.size := (Array.getElem?_eq_some_iff.1 e).1
theorem below_dn {B : Nat} {u w : World} (h : Below B u w) (m : Nat) : Below B u (w.drewN m) := ⟨h.os, h.tape, h.output, h.size, h.block⟩
theorem below_drew {B : Nat} {u w : World} (h : Below B u w) : Below B u w.drew := ⟨h.os, h.tape, h.output, h.size, h.block⟩

/-- But for the block b, and rows of entries, all that lay lies as it lay; below base all does. -/
structure Fr (base b : Nat) (w w' : World) : Prop where
  os : w'.os = w.os
  tape : w'.tape = w.tape
  output : w'.output = w.output
  size : w.heap.size ≤ w'.heap.size
  low : ∀ k, k < base → w'.heap[k]? = w.heap[k]?
  blk : ∀ (k : Nat) (o : Obj), w.heap[k]? = some o → k ≠ b → (∀ cur, o ≠ .cells cur 54 (0, 0)) → w'.heap[k]? = some o

theorem Fr.refl (base b : Nat) (w : World) : Fr base b w w := ⟨rfl, rfl, rfl, Nat.le_refl _, fun _ _ => rfl, fun _ _ h _ _ => h⟩
theorem Fr.trans {base b : Nat} {u v w : World} (h : Fr base b u v) (g : Fr base b v w) : Fr base b u w :=
  ⟨g.os.trans h.os, g.tape.trans h.tape, g.output.trans h.output, Nat.le_trans h.size g.size, fun k hk => (g.low k hk).trans (h.low k hk), fun k o h1 h2 h3 => g.blk k o (h.blk k o h1 h2 h3) h2 h3⟩
theorem Fr.of_below {base b : Nat} {w w' : World} (h : Below w.heap.size w w') (hb : base ≤ w.heap.size) : Fr base b w w' :=
  ⟨h.os, h.tape, h.output, h.size, fun k hk => h.block k (by omega), fun k _ hk _ _ => (h.block k (lt_of_heap hk)).trans hk⟩
theorem Fr.alloc {base b : Nat} {u w : World} (h : Fr base b u w) (hb : base ≤ w.heap.size) (o : Obj) : Fr base b u (w.alloc o) :=
  h.trans (.of_below ((Below.refl _ w).alloc (Nat.le_refl _) o) hb)
theorem Fr.drew {base b : Nat} {u w : World} (h : Fr base b u w) : Fr base b u w.drew := ⟨h.os, h.tape, h.output, h.size, h.low, h.blk⟩
theorem Fr.dn {base b : Nat} {u w : World} (h : Fr base b u w) (m : Nat) : Fr base b u (w.drewN m) := ⟨h.os, h.tape, h.output, h.size, h.low, h.blk⟩
theorem Fr.set {base b : Nat} {u w : World} (h : Fr base b u w) {p : Addr} (hp : p.block = b) (hb : base ≤ b) (v : Value) : Fr base b u (w.setCell p v) :=
  h.trans ⟨rfl, rfl, rfl, by simp [World.setCell], fun k hk => Below.heap_setCell _ _ _ _ (by omega), fun k o h1 h2 _ => (Below.heap_setCell _ _ _ _ (by omega)).trans h1⟩
theorem Fr.below {base b : Nat} {w w' : World} (h : Fr base b w w') : Below base w w' := ⟨h.os, h.tape, h.output, h.size, h.low⟩

/-- Rows of one length, one behind the other. -/
def rowsOf {α : Type} (r : α → List Value) (ms : List α) : List Value := ms.flatMap r
theorem rowsOf_length {α : Type} (r : α → List Value) (k : Nat) (hr : ∀ x, (r x).length = k) (ms : List α) : (rowsOf r ms).length = k * ms.length := by
  induction ms with
  | nil => rfl
  | cons x l ih => simp only [rowsOf, List.flatMap_cons, List.length_append, List.length_cons] at *; rw [ih, hr, Nat.mul_succ]; omega
theorem rowsOf_get {α : Type} (r : α → List Value) (k : Nat) (hr : ∀ x, (r x).length = k) (ms : List α) (i f : Nat) (M : α) (hi : ms[i]? = some M) (hf : f < k) : (rowsOf r ms)[k * i + f]? = (r M)[f]? := by
  induction ms generalizing i with
  | nil => simp at hi
  | cons x l ih =>
    simp only [rowsOf, List.flatMap_cons]
    cases i with
    | zero => simp at hi; subst hi; rw [List.getElem?_append_left (by rw [hr]; omega)]; simp
    | succ j =>
      have := ih j (by simpa using hi)
      rw [List.getElem?_append_right (by rw [hr, Nat.mul_succ]; omega), hr, ← this]
      rw [Nat.mul_succ, show k * j + k + f - k = k * j + f by omega]; rfl
theorem rowsOf_set {α : Type} (r : α → List Value) (k : Nat) (hr : ∀ x, (r x).length = k) (ms : List α) (i f : Nat) (M M' : α) (v : Value) (hi : ms[i]? = some M) (hf : f < k) (he : r M' = (r M).set f v) :
    (rowsOf r ms).set (k * i + f) v = rowsOf r (ms.set i M') := by
  induction ms generalizing i with
  | nil => simp at hi
  | cons x l ih =>
    simp only [rowsOf, List.flatMap_cons]
    cases i with
    | zero => simp at hi; subst hi; rw [List.set_append_left _ _ (by rw [hr]; omega)]; simp [he]
    | succ j =>
      have := ih j (by simpa using hi)
      rw [List.set_append_right _ _ (by rw [hr, Nat.mul_succ]; omega), hr]
      rw [Nat.mul_succ, show k * j + k + f - k = k * j + f by omega]
      simp only [rowsOf] at this
      simp [this]
theorem rowsOf_append {α : Type} (r : α → List Value) (xs ys : List α) : rowsOf r (xs ++ ys) = rowsOf r xs ++ rowsOf r ys := by simp [rowsOf]

/-- The cells of a block that is known. -/
theorem cell_of {W : World} {b : Nat} {cs : Array Value} {t : TypeId} {f : Nat × Nat} (h : W.heap[b]? = some (.cells cs t f)) (i : Nat) : W.cell? ⟨b, i, none⟩ = cs[i]? := by
  simp [World.cell?, h]
theorem frozen_of {W : World} {b : Nat} {cs : Array Value} {t : TypeId} (h : W.heap[b]? = some (.cells cs t)) (i : Nat) : W.frozen? ⟨b, i, none⟩ = false := by
  simp [World.frozen?, h]
/-- A store into a block that is known. -/
theorem heap_set {W : World} {b : Nat} {cs : Array Value} {t : TypeId} {f : Nat × Nat} (h : W.heap[b]? = some (.cells cs t f)) (i : Nat) (v : Value) :
    (W.setCell ⟨b, i, none⟩ v).heap[b]? = some (.cells (cs.setIfInBounds i v) t f) := by
  obtain ⟨hl, he⟩ := Array.getElem?_eq_some_iff.1 h
  simp [World.setCell, Array.getElem?_modify, h]
theorem get_set {α : Type} {xs : List α} {i : Nat} {x : α} (hi : xs[i]? = some x) (y : α) : (xs.set i y)[i]? = some y := by
  have := (List.getElem?_eq_some_iff.1 hi).1
  simp [this]

theorem own_ne {W : World} {base : Nat} {e : TypeId} {s n k : Nat} {v : Value} {xs : List Value} {o : Obj} (h : W.ownsRow base e s v n xs) (ho : W.heap[k]? = some o) (hne : ∀ cur, o ≠ .cells cur e (0, 0)) : some k ≠ v.ownBlock := by
  obtain ⟨-, ⟨rfl, hz⟩ | ⟨g, cap, cur, rfl, hgb, hgg, hcap, hcm, hcs, htk⟩⟩ := h
  · simp [Value.ownBlock]
  · simp only [Value.ownBlock, ne_eq, Option.some.injEq]
    rintro rfl
    rw [hgg] at ho
    exact hne cur (Option.some.inj ho).symm
theorem own_keep {W W' : World} {base : Nat} {e : TypeId} {s n : Nat} {v : Value} {xs : List Value} (h : W.ownsRow base e s v n xs) (hb : ∀ (k : Nat) (cur : Array Value), W.heap[k]? = some (Obj.cells cur e (0, 0)) → W'.heap[k]? = W.heap[k]?) : W'.ownsRow base e s v n xs := by
  obtain ⟨h0, h1⟩ := h
  refine ⟨h0, ?_⟩
  rcases h1 with h1 | ⟨g, cap, cur, h1, h2, h3, h4⟩
  · exact .inl h1
  · exact .inr ⟨g, cap, cur, h1, h2, (hb g cur h3).trans h3, h4⟩
theorem own_form {W : World} {base : Nat} {e : TypeId} {s n : Nat} {v : Value} {xs : List Value} (h : W.ownsRow base e s v n xs) : ∃ a cap, v = .slice a n cap := by
  obtain ⟨-, ⟨rfl, hz⟩ | ⟨g, cap, cur, rfl, _⟩⟩ := h
  · exact ⟨none, 0, by rw [hz]⟩
  · exact ⟨_, _, rfl⟩
theorem own_open {W : World} {base : Nat} {e : TypeId} {s n : Nat} {v : Value} {xs : List Value} (h : W.ownsRow base e s v n xs) (hn : n ≠ 0) :
    ∃ g cap cur, v = .slice (some ⟨g, 0, none⟩) n cap ∧ base ≤ g ∧ W.heap[g]? = some (.cells cur e) ∧ n ≤ cap ∧ cap ≤ maxLen ∧ cur.size = cap * s ∧ ∀ (j : Nat) (u : Value), xs[j]? = some u → W.cell? ⟨g, j, none⟩ = some u := by
  obtain ⟨hl, ⟨rfl, hz⟩ | ⟨g, cap, cur, rfl, hgb, hgg, hcap, hcm, hcs, htk⟩⟩ := h
  · exact absurd hz hn
  · refine ⟨g, cap, cur, rfl, hgb, hgg, hcap, hcm, hcs, fun j u hj => ?_⟩
    have hj2 := (List.getElem?_eq_some_iff.1 hj).1
    rw [cell_of hgg, ← hj, ← htk, List.getElem?_take_of_lt (by omega)]
    simp

theorem own_base {W : World} {base base' : Nat} {e : TypeId} {s n : Nat} {v : Value} {xs : List Value} (h : W.ownsRow base' e s v n xs) (hb : base ≤ base') : W.ownsRow base e s v n xs := by
  obtain ⟨h0, h1 | ⟨g, cap, cur, h1, h2, h3⟩⟩ := h
  · exact ⟨h0, .inl h1⟩
  · exact ⟨h0, .inr ⟨g, cap, cur, h1, Nat.le_trans hb h2, h3⟩⟩
theorem own_addr {W : World} {base : Nat} {e : TypeId} {s n m cap : Nat} {a : Option Addr} {xs : List Value} (h : W.ownsRow base e s (.slice a m cap) n xs) : ∃ g, (a = none ∧ m = 0 ∧ cap = 0) ∨ a = some ⟨g, 0, none⟩ := by
  obtain ⟨-, ⟨e1, hz⟩ | ⟨g, cap', cur, e1, _⟩⟩ := h
  · simp only [Value.slice.injEq] at e1; obtain ⟨rfl, rfl, rfl⟩ := e1; exact ⟨0, .inl ⟨rfl, rfl, rfl⟩⟩
  · simp only [Value.slice.injEq] at e1; obtain ⟨rfl, rfl, rfl⟩ := e1; exact ⟨g, .inr rfl⟩
theorem below_grown {base : Nat} {w W W' : World} {e : TypeId} {s n : Nat} {v : Value} {xs : List Value} (hB : Below base w W) (h : W.ownsRow base e s v n xs) (g : W.grownBy W' v.ownBlock) (hb : base ≤ W.heap.size) : Below base w W' := by
  refine ⟨g.os.trans hB.os, g.tape.trans hB.tape, g.output.trans hB.output, ?_, ?_⟩
  · have := g.size; have := hB.size; omega
  · intro k hk
    have h1 : some k ≠ v.ownBlock := by
      intro e
      obtain ⟨-, ⟨rfl, _⟩ | ⟨g', cap, cur, rfl, hgb, _⟩⟩ := h
      · simp [Value.ownBlock] at e
      · simp [Value.ownBlock] at e; omega
    rw [g.block k (by omega) h1]
    exact hB.block k hk

/-- Entries: a key, and how often it is pinned. -/
abbrev Ents := List (ByteArray × Int)
def row (p : ByteArray × Int) : List Value := [.string p.1, .int .i64 p.2]
theorem row_length (p : ByteArray × Int) : (row p).length = 2 := rfl
theorem rows_len (es : Ents) : (rowsOf row es).length = es.length * 2 := by rw [rowsOf_length row 2 row_length, Nat.mul_comm]
theorem rows_one (es : Ents) : ∀ u ∈ rowsOf row es, u.oneCell' = true := by
  intro u hu
  simp only [rowsOf, List.mem_flatMap, row] at hu
  obtain ⟨a, _, ha⟩ := hu
  simp at ha
  rcases ha with rfl | rfl <;> rfl
theorem rows_cons (x : ByteArray × Int) (xs : Ents) : rowsOf row (x :: xs) = .string x.1 :: .int .i64 x.2 :: rowsOf row xs := rfl
theorem rows_take : ∀ (xs : Ents) (k : Nat), rowsOf row (xs.take k) = (rowsOf row xs).take (k * 2)
  | xs, 0 => by simp [rowsOf]
  | [], k + 1 => by simp [rowsOf]
  | x :: xs, k + 1 => by
    rw [List.take_succ_cons, rows_cons, rows_cons, rows_take xs k, show (k + 1) * 2 = k * 2 + 1 + 1 by omega, List.take_succ_cons, List.take_succ_cons]
theorem rows_drop : ∀ (xs : Ents) (k : Nat), rowsOf row (xs.drop k) = (rowsOf row xs).drop (k * 2)
  | xs, 0 => by simp
  | [], k + 1 => by simp [rowsOf]
  | x :: xs, k + 1 => by
    rw [List.drop_succ_cons, rows_cons, rows_drop xs k, show (k + 1) * 2 = k * 2 + 1 + 1 by omega, List.drop_succ_cons, List.drop_succ_cons]
theorem rows_at (es : Ents) (i : Nat) (k : ByteArray) (v : Int) (h : es[i]? = some (k, v)) : (rowsOf row es)[i * 2]? = some (.string k) ∧ (rowsOf row es)[i * 2 + 1]? = some (.int .i64 v) := by
  have e0 := rowsOf_get row 2 row_length es i 0 (k, v) h (by omega)
  have e1 := rowsOf_get row 2 row_length es i 1 (k, v) h (by omega)
  rw [show i * 2 = 2 * i + 0 by omega, show 2 * i + 0 + 1 = 2 * i + 1 by omega]
  exact ⟨e0, e1⟩

/-- A list: its struct in block b, its entries in a row of their own from base on. -/
structure Ls (base : Nat) (W : World) (b : Nat) (mo : Int) (es : Ents) : Prop where
  hb : ∃ a cap, W.heap[b]? = some (.cells #[.int .i64 mo, .slice a es.length cap] 47) ∧ W.ownsRow base 54 2 (.slice a es.length cap) es.length (rowsOf row es)
  kb : base ≤ b
section
variable {base : Nat} {W W' : World} {b : Nat} {mo : Int} {es es' : Ents}
theorem Ls.lt (h : Ls base W b mo es) : b < W.heap.size := by
  obtain ⟨a, cap, h1, _⟩ := h.hb
  exact lt_of_heap h1
theorem Ls.base_le (h : Ls base W b mo es) : base ≤ W.heap.size := by have := h.lt; have := h.kb; omega
theorem Ls.keep (h : Ls base W b mo es) (hk : ∀ (k : Nat) (cur : Array Value) (t : TypeId), W.heap[k]? = some (.cells cur t (0, 0)) → (k = b ∨ t = 54) → W'.heap[k]? = W.heap[k]?) : Ls base W' b mo es := by
  obtain ⟨a, cap, h1, h2⟩ := h.hb
  exact ⟨⟨a, cap, (hk b _ _ h1 (.inl rfl)).trans h1, own_keep h2 fun k cur hc => hk k cur 54 hc (.inr rfl)⟩, h.kb⟩
theorem Ls.below (h : Ls base W b mo es) (g : Below W.heap.size W W') : Ls base W' b mo es := h.keep fun k _ _ hk _ => g.block k (lt_of_heap hk)
theorem Ls.drew (h : Ls base W b mo es) : Ls base W.drew b mo es := h.keep fun _ _ _ _ _ => rfl
theorem Ls.dn (h : Ls base W b mo es) (m : Nat) : Ls base (W.drewN m) b mo es := h.keep fun _ _ _ _ _ => rfl
theorem Ls.cells (h : Ls base W b mo es) : ∃ a cap, W.cell? ⟨b, 0, none⟩ = some (.int .i64 mo) ∧ W.cell? ⟨b, 1, none⟩ = some (.slice a es.length cap) ∧ (∀ i, W.frozen? ⟨b, i, none⟩ = false) ∧ W.ownsRow base 54 2 (.slice a es.length cap) es.length (rowsOf row es) := by
  obtain ⟨a, cap, h1, h2⟩ := h.hb
  refine ⟨a, cap, ?_, ?_, frozen_of h1, h2⟩ <;> rw [cell_of h1] <;> rfl
theorem own_at {a : Option Addr} {cap n : Nat} {e : TypeId} (own : W.ownsRow base e 2 (.slice a n cap) n (rowsOf row es)) {i : Nat} {k : ByteArray} {v : Int} (hi : es[i]? = some (k, v)) (hn : es.length = n) :
    ∃ g, a = some ⟨g, 0, none⟩ ∧ W.cell? ⟨g, i * 2, none⟩ = some (.string k) ∧ W.cell? ⟨g, i * 2 + 1, none⟩ = some (.int .i64 v) ∧ (∀ j, W.frozen? ⟨g, j, none⟩ = false) ∧ g < W.heap.size := by
  have h1 := (List.getElem?_eq_some_iff.1 hi).1
  obtain ⟨g, cap', cur, e1, _, hg, _, _, _, hx⟩ := own_open own (by omega)
  simp only [Value.slice.injEq] at e1
  obtain ⟨p0, p1⟩ := rows_at es i k v hi
  exact ⟨g, e1.1, hx _ _ p0, hx _ _ p1, frozen_of hg, lt_of_heap hg⟩
/-- Another row of entries is stored. -/
theorem Ls.setRow {a : Option Addr} {m cap : Nat} (h : Ls base W b mo es) (own : W.ownsRow base 54 2 (.slice a m cap) m (rowsOf row es')) (hm : es'.length = m) : Ls base (W.setCell ⟨b, 1, none⟩ (.slice a m cap)) b mo es' := by
  obtain ⟨a0, cap0, h1, h2⟩ := h.hb
  subst hm
  refine ⟨⟨a, cap, ?_, own_keep own fun k cur hc => Below.heap_setCell _ _ _ _ ?_⟩, h.kb⟩
  · rw [heap_set h1]; simp
  · rintro rfl
    rw [h1] at hc
    simp at hc
end
theorem new_bad (m : Int) (hm : m < 1 ∨ 64 < m) (w : World) :
    Calls Try.prog 8 #[.int .i64 m] w fun e w' => e = .returned (.tuple #[.pointer none, .int .i64 1]) ∧ w' = w := by
  by_cases h1 : m < 1
  · clear hm
    go_enter Try.func8, Try.ntmps8
    go_wp2_with fail
    go_ret2
    exact ⟨rfl, rfl⟩
  · have h2 : 64 < m := by omega
    clear hm
    go_enter Try.func8, Try.ntmps8
    go_wp2_with fail
    go_ret2
    exact ⟨rfl, rfl⟩
set_option maxHeartbeats 400000 in
theorem new_good (m : Int) (h1 : ¬ m < 1) (h2 : ¬ 64 < m) (w : World) :
    Calls Try.prog 8 #[.int .i64 m] w fun e w' => e = .returned (.tuple #[.pointer (some ⟨w.heap.size, 0, none⟩), .int .i64 0]) ∧
      Ls w.heap.size w' w.heap.size m [] ∧ Below w.heap.size w w' := by
  go_enter Try.func8, Try.ntmps8
  go_wp2_with fail
  go_ret2
  exact ⟨rfl, ⟨⟨none, 0, putAll _ _ rfl, World.ownsRow_nil _ _ _ _⟩, Nat.le_refl _⟩, (Below.refl _ w).alloc (Nat.le_refl _) _⟩
theorem len_any (base b : Nat) (mo : Int) (es : Ents) (w : World) (h : Ls base w b mo es) :
    Calls Try.prog 11 #[.pointer (some ⟨b, 0, none⟩)] w fun e w' => e = .returned (.int .i64 (es.length : Int)) ∧ w' = w := by
  obtain ⟨a, cap, h0, h1, hf, own⟩ := h.cells
  clear h own
  generalize es.length = m at *
  go_enter Try.func11, Try.ntmps11
  go_wp2_with fail
  go_ret
  exact ⟨rfl, rfl⟩
theorem pinned_any (g i : Nat) (v : Int) (w : World) (h : w.cell? ⟨g, i + 1, none⟩ = some (.int .i64 v)) :
    Calls Try.prog 31 #[.pointer (some ⟨g, i, none⟩)] w fun e w' => e = .returned (.bool (decide (0 < v))) ∧ w' = w := by
  go_enter Try.func31, Try.ntmps31
  go_wp2_with fail
  go_ret
  exact ⟨rfl, rfl⟩
theorem byUse_any (b : Nat) (w : World) :
    Calls Try.prog 30 #[.pointer (some ⟨b, 0, none⟩)] w fun e w' =>
      e = .returned (.func (.func 36) #[] #[.pointer (some ⟨w.heap.size, 0, none⟩)]) ∧ w' = w.alloc (.cells #[.pointer (some ⟨b, 0, none⟩)] 22) := by
  go_enter Try.func30, Try.ntmps30
  go_wp2
  go_ret
  exact ⟨rfl, rfl⟩
end Go.Proofs.Ytjcjibjagjiedaa
