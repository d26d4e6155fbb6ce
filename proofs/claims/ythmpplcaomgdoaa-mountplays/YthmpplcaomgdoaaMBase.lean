/-
  A table of mounts in its two blocks: its struct and the row of the mounts (four cells each); what a walk is told of them, what a store leaves.
-/
import Derived.Test.YthmpplcaomgdoaaBase
namespace Go.Proofs.Ythmpplcaomgdoaa.Mt
open Go.RowKit
attribute [local go_sem ↓] Go.wp_at_zero Go.wp_at_succ

theorem putAll {w : World} (o : Obj) (h : Nat) (hh : h = w.heap.size) : (w.alloc o).heap[h]? = some o := by
  subst hh; exact heap_alloc_new w o
/-- Rows of one length, one behind the other. -/
def rowsOf {α : Type} (r : α → List Value) (ms : List α) : List Value := ms.flatMap r
theorem rowsOf_length {α : Type} (r : α → List Value) (k : Nat) (hr : ∀ x, (r x).length = k) (ms : List α) : (rowsOf r ms).length = k * ms.length := by
  induction ms with
  | nil => rfl
  | cons x l ih => simp only [rowsOf, List.flatMap_cons, List.length_append, List.length_cons] at *; rw [ih, hr, Nat.mul_succ]; omega
theorem rowsOf_get {α : Type} (r : α → List Value) (k : Nat) (hr : ∀ x, (r x).length = k) (ms : List α) (i f : Nat) (M : α) (hi : ms[i]? = some M) (hf : f < k) : (rowsOf r ms)[k * i + f]? = (r M)[f]? := by
  induction ms generalizing i with
  | nil => simp at hi
  | cons x l ih =>
    simp only [rowsOf, List.flatMap_cons]
    cases i with
    | zero => simp at hi; subst hi; rw [List.getElem?_append_left (by rw [hr]; omega)]; simp
    | succ j =>
      have := ih j (by simpa using hi)
      rw [List.getElem?_append_right (by rw [hr, Nat.mul_succ]; omega), hr, ← this]
      rw [Nat.mul_succ, show k * j + k + f - k = k * j + f by omega]; rfl
theorem rowsOf_set {α : Type} (r : α → List Value) (k : Nat) (hr : ∀ x, (r x).length = k) (ms : List α) (i f : Nat) (M M' : α) (v : Value) (hi : ms[i]? = some M) (hf : f < k) (he : r M' = (r M).set f v) :
    (rowsOf r ms).set (k * i + f) v = rowsOf r (ms.set i M') := by
  induction ms generalizing i with
  | nil => simp at hi
  | cons x l ih =>
    simp only [rowsOf, List.flatMap_cons]
    cases i with
    | zero => simp at hi; subst hi; rw [List.set_append_left _ _ (by rw [hr]; omega)]; simp [he]
    | succ j =>
      have := ih j (by simpa using hi)
      rw [List.set_append_right _ _ (by rw [hr, Nat.mul_succ]; omega), hr]
      rw [Nat.mul_succ, show k * j + k + f - k = k * j + f by omega]
      simp only [rowsOf] at this
      simp [this]
theorem rowsOf_append {α : Type} (r : α → List Value) (xs ys : List α) : rowsOf r (xs ++ ys) = rowsOf r xs ++ rowsOf r ys := by simp [rowsOf]

theorem get_set {α : Type} {xs : List α} {i : Nat} {x : α} (hi : xs[i]? = some x) (y : α) : (xs.set i y)[i]? = some y := by
  have := (List.getElem?_eq_some_iff.1 hi).1
  simp [this]

theorem own_ne {W : World} {base : Nat} {e : TypeId} {s n k : Nat} {v : Value} {xs : List Value} {o : Obj} (h : W.ownsRow base e s v n xs) (ho : W.heap[k]? = some o) (hne : ∀ cur, o ≠ .cells cur e (0, 0)) : some k ≠ v.ownBlock := by
  obtain ⟨-, ⟨rfl, hz⟩ | ⟨g, cap, cur, rfl, hgb, hgg, hcap, hcm, hcs, htk⟩⟩ := h
  · simp [Value.ownBlock]
  · simp only [Value.ownBlock, ne_eq, Option.some.injEq]
    rintro rfl
    rw [hgg] at ho
    exact hne cur (Option.some.inj ho).symm
theorem own_keep {W W' : World} {base : Nat} {e : TypeId} {s n : Nat} {v : Value} {xs : List Value} (h : W.ownsRow base e s v n xs) (hb : ∀ (k : Nat) (cur : Array Value), W.heap[k]? = some (Obj.cells cur e (0, 0)) → W'.heap[k]? = W.heap[k]?) : W'.ownsRow base e s v n xs := by
  obtain ⟨h0, h1⟩ := h
  refine ⟨h0, ?_⟩
  rcases h1 with h1 | ⟨g, cap, cur, h1, h2, h3, h4⟩
  · exact .inl h1
  · exact .inr ⟨g, cap, cur, h1, h2, (hb g cur h3).trans h3, h4⟩
theorem own_form {W : World} {base : Nat} {e : TypeId} {s n : Nat} {v : Value} {xs : List Value} (h : W.ownsRow base e s v n xs) : ∃ a cap, v = .slice a n cap := by
  obtain ⟨-, ⟨rfl, hz⟩ | ⟨g, cap, cur, rfl, _⟩⟩ := h
  · exact ⟨none, 0, by rw [hz]⟩
  · exact ⟨_, _, rfl⟩
theorem own_open {W : World} {base : Nat} {e : TypeId} {s n : Nat} {v : Value} {xs : List Value} (h : W.ownsRow base e s v n xs) (hn : n ≠ 0) :
    ∃ g cap cur, v = .slice (some ⟨g, 0, none⟩) n cap ∧ base ≤ g ∧ W.heap[g]? = some (.cells cur e) ∧ n ≤ cap ∧ cap ≤ maxLen ∧ cur.size = cap * s ∧ ∀ (j : Nat) (u : Value), xs[j]? = some u → W.cell? ⟨g, j, none⟩ = some u := by
  obtain ⟨hl, ⟨rfl, hz⟩ | ⟨g, cap, cur, rfl, hgb, hgg, hcap, hcm, hcs, htk⟩⟩ := h
  · exact absurd hz hn
  · refine ⟨g, cap, cur, rfl, hgb, hgg, hcap, hcm, hcs, fun j u hj => ?_⟩
    have hj2 := (List.getElem?_eq_some_iff.1 hj).1
    rw [cell_of hgg, ← hj, ← htk, List.getElem?_take_of_lt (by omega)]
    simp

theorem own_base {W : World} {base base' : Nat} {e : TypeId} {s n : Nat} {v : Value} {xs : List Value} (h : W.ownsRow base' e s v n xs) (hb : base ≤ base') : W.ownsRow base e s v n xs := by
  obtain ⟨h0, h1 | ⟨g, cap, cur, h1, h2, h3⟩⟩ := h
  · exact ⟨h0, .inl h1⟩
  · exact ⟨h0, .inr ⟨g, cap, cur, h1, Nat.le_trans hb h2, h3⟩⟩
theorem own_addr {W : World} {base : Nat} {e : TypeId} {s n m cap : Nat} {a : Option Addr} {xs : List Value} (h : W.ownsRow base e s (.slice a m cap) n xs) : ∃ g, (a = none ∧ m = 0 ∧ cap = 0) ∨ a = some ⟨g, 0, none⟩ := by
  obtain ⟨-, ⟨e1, hz⟩ | ⟨g, cap', cur, e1, _⟩⟩ := h
  · simp only [Value.slice.injEq] at e1; obtain ⟨rfl, rfl, rfl⟩ := e1; exact ⟨0, .inl ⟨rfl, rfl, rfl⟩⟩
  · simp only [Value.slice.injEq] at e1; obtain ⟨rfl, rfl, rfl⟩ := e1; exact ⟨g, .inr rfl⟩
theorem below_grown {base : Nat} {w W W' : World} {e : TypeId} {s n : Nat} {v : Value} {xs : List Value} (hB : Below base w W) (h : W.ownsRow base e s v n xs) (g : W.grownBy W' v.ownBlock) (hb : base ≤ W.heap.size) : Below base w W' := by
  refine ⟨g.os.trans hB.os, g.tape.trans hB.tape, g.output.trans hB.output, ?_, ?_⟩
  · have := g.size; have := hB.size; omega
  · intro k hk
    have h1 : some k ≠ v.ownBlock := by
      intro e
      obtain ⟨-, ⟨rfl, _⟩ | ⟨g', cap, cur, rfl, hgb, _⟩⟩ := h
      · simp [Value.ownBlock] at e
      · simp [Value.ownBlock] at e; omega
    rw [g.block k (by omega) h1]
    exact hB.block k hk

/-- A mount that lies at a place: its number, its top, the place's mount and node. -/
structure Ld where
  n : Int
  top : Int
  am : Int
  an : Int
abbrev Ents := List Ld
def row (p : Ld) : List Value := [I p.n, I p.top, I p.am, I p.an]
/-- A place, and a mount, as values. -/
def pv (m n : Int) : Value := .agg #[I m, I n]
def lv (p : Ld) : Value := .agg #[I p.n, I p.top, I p.am, I p.an]
theorem row_length (p : Ld) : (row p).length = 4 := rfl
theorem rows_len (es : Ents) : (rowsOf row es).length = es.length * 4 := by rw [rowsOf_length row 4 row_length, Nat.mul_comm]
theorem rows_one (es : Ents) : ∀ u ∈ rowsOf row es, u.oneCell' = true := by
  intro u hu
  simp only [rowsOf, List.mem_flatMap, row] at hu
  obtain ⟨a, _, ha⟩ := hu
  simp at ha
  rcases ha with rfl | rfl | rfl | rfl <;> rfl
theorem rows_cons (x : Ld) (xs : Ents) : rowsOf row (x :: xs) = I x.n :: I x.top :: I x.am :: I x.an :: rowsOf row xs := rfl
theorem rows_take : ∀ (xs : Ents) (k : Nat), rowsOf row (xs.take k) = (rowsOf row xs).take (k * 4)
  | xs, 0 => by simp [rowsOf]
  | [], k + 1 => by simp [rowsOf]
  | x :: xs, k + 1 => by
    rw [List.take_succ_cons, rows_cons, rows_cons, rows_take xs k, show (k + 1) * 4 = k * 4 + 1 + 1 + 1 + 1 by omega, List.take_succ_cons, List.take_succ_cons, List.take_succ_cons, List.take_succ_cons]
theorem rows_drop : ∀ (xs : Ents) (k : Nat), rowsOf row (xs.drop k) = (rowsOf row xs).drop (k * 4)
  | xs, 0 => by simp
  | [], k + 1 => by simp [rowsOf]
  | x :: xs, k + 1 => by
    rw [List.drop_succ_cons, rows_cons, rows_drop xs k, show (k + 1) * 4 = k * 4 + 1 + 1 + 1 + 1 by omega, List.drop_succ_cons, List.drop_succ_cons, List.drop_succ_cons, List.drop_succ_cons]
theorem rows_at (es : Ents) (i : Nat) (p : Ld) (h : es[i]? = some p) : (rowsOf row es)[i * 4]? = some (I p.n) ∧ (rowsOf row es)[i * 4 + 1]? = some (I p.top) ∧ (rowsOf row es)[i * 4 + 2]? = some (I p.am) ∧ (rowsOf row es)[i * 4 + 3]? = some (I p.an) := by
  have e0 := rowsOf_get row 4 row_length es i 0 p h (by omega)
  have e1 := rowsOf_get row 4 row_length es i 1 p h (by omega)
  have e2 := rowsOf_get row 4 row_length es i 2 p h (by omega)
  have e3 := rowsOf_get row 4 row_length es i 3 p h (by omega)
  rw [show i * 4 = 4 * i + 0 by omega, show 4 * i + 0 + 1 = 4 * i + 1 by omega, show 4 * i + 0 + 2 = 4 * i + 2 by omega, show 4 * i + 0 + 3 = 4 * i + 3 by omega]
  exact ⟨e0, e1, e2, e3⟩

/-- But for the block b, and rows of entries, all that lay lies as it lay; below base all does. -/
structure Fm (base b : Nat) (w w' : World) : Prop where
  os : w'.os = w.os
  tape : w'.tape = w.tape
  output : w'.output = w.output
  size : w.heap.size ≤ w'.heap.size
  low : ∀ k, k < base → w'.heap[k]? = w.heap[k]?
  blk : ∀ (k : Nat) (o : Obj), w.heap[k]? = some o → k ≠ b → (∀ cur, o ≠ .cells cur 59 (0, 0)) → w'.heap[k]? = some o

theorem Fm.refl (base b : Nat) (w : World) : Fm base b w w := ⟨rfl, rfl, rfl, Nat.le_refl _, fun _ _ => rfl, fun _ _ h _ _ => h⟩
theorem Fm.trans {base b : Nat} {u v w : World} (h : Fm base b u v) (g : Fm base b v w) : Fm base b u w :=
  ⟨g.os.trans h.os, g.tape.trans h.tape, g.output.trans h.output, Nat.le_trans h.size g.size, fun k hk => (g.low k hk).trans (h.low k hk), fun k o h1 h2 h3 => g.blk k o (h.blk k o h1 h2 h3) h2 h3⟩
theorem Fm.of_below {base b : Nat} {w w' : World} (h : Below w.heap.size w w') (hb : base ≤ w.heap.size) : Fm base b w w' :=
  ⟨h.os, h.tape, h.output, h.size, fun k hk => h.block k (by omega), fun k _ hk _ _ => (h.block k (lt_of_heap hk)).trans hk⟩
theorem Fm.alloc {base b : Nat} {u w : World} (h : Fm base b u w) (hb : base ≤ w.heap.size) (o : Obj) : Fm base b u (w.alloc o) :=
  h.trans (.of_below ((Below.refl _ w).alloc (Nat.le_refl _) o) hb)
theorem Fm.drew {base b : Nat} {u w : World} (h : Fm base b u w) : Fm base b u w.drew := ⟨h.os, h.tape, h.output, h.size, h.low, h.blk⟩
theorem Fm.dn {base b : Nat} {u w : World} (h : Fm base b u w) (m : Nat) : Fm base b u (w.drewN m) := ⟨h.os, h.tape, h.output, h.size, h.low, h.blk⟩
theorem Fm.set {base b : Nat} {u w : World} (h : Fm base b u w) {p : Addr} (hp : p.block = b) (hb : base ≤ b) (v : Value) : Fm base b u (w.setCell p v) :=
  h.trans ⟨rfl, rfl, rfl, by simp [World.setCell], fun k hk => Below.heap_setCell _ _ _ _ (by omega), fun k o h1 h2 _ => (Below.heap_setCell _ _ _ _ (by omega)).trans h1⟩
theorem Fm.below {base b : Nat} {w w' : World} (h : Fm base b w w') : Below base w w' := ⟨h.os, h.tape, h.output, h.size, h.low⟩

/-- A table: its struct in block b (mount 0's top, how many were bound), its mounts in a row of their own from base on. -/
structure Ls (base : Nat) (W : World) (b : Nat) (rt md : Int) (es : Ents) : Prop where
  hb : ∃ a cap, W.heap[b]? = some (.cells #[I rt, I md, .slice a es.length cap] 57) ∧ W.ownsRow base 59 4 (.slice a es.length cap) es.length (rowsOf row es)
  kb : base ≤ b
section
variable {base : Nat} {W W' : World} {b : Nat} {rt md : Int} {es es' : Ents}
theorem Ls.lt (h : Ls base W b rt md es) : b < W.heap.size := by
  obtain ⟨a, cap, h1, _⟩ := h.hb
  exact lt_of_heap h1
theorem Ls.base_le (h : Ls base W b rt md es) : base ≤ W.heap.size := by have := h.lt; have := h.kb; omega
theorem Ls.keep (h : Ls base W b rt md es) (hk : ∀ (k : Nat) (cur : Array Value) (t : TypeId), W.heap[k]? = some (.cells cur t (0, 0)) → (k = b ∨ t = 59) → W'.heap[k]? = W.heap[k]?) : Ls base W' b rt md es := by
  obtain ⟨a, cap, h1, h2⟩ := h.hb
  exact ⟨⟨a, cap, (hk b _ _ h1 (.inl rfl)).trans h1, own_keep h2 fun k cur hc => hk k cur 59 hc (.inr rfl)⟩, h.kb⟩
theorem Ls.below (h : Ls base W b rt md es) (g : Below W.heap.size W W') : Ls base W' b rt md es := h.keep fun k _ _ hk _ => g.block k (lt_of_heap hk)
theorem Ls.drew (h : Ls base W b rt md es) : Ls base W.drew b rt md es := h.keep fun _ _ _ _ _ => rfl
theorem Ls.dn (h : Ls base W b rt md es) (m : Nat) : Ls base (W.drewN m) b rt md es := h.keep fun _ _ _ _ _ => rfl
theorem Ls.cells (h : Ls base W b rt md es) : ∃ a cap, W.cell? ⟨b, 0, none⟩ = some (I rt) ∧ W.cell? ⟨b, 1, none⟩ = some (I md) ∧ W.cell? ⟨b, 2, none⟩ = some (.slice a es.length cap) ∧ (∀ i, W.frozen? ⟨b, i, none⟩ = false) ∧ W.ownsRow base 59 4 (.slice a es.length cap) es.length (rowsOf row es) := by
  obtain ⟨a, cap, h1, h2⟩ := h.hb
  refine ⟨a, cap, ?_, ?_, ?_, frozen_of h1, h2⟩ <;> rw [cell_of h1] <;> rfl
theorem own_at {a : Option Addr} {cap n : Nat} {e : TypeId} (own : W.ownsRow base e 4 (.slice a n cap) n (rowsOf row es)) {i : Nat} {p : Ld} (hi : es[i]? = some p) (hn : es.length = n) :
    ∃ g, a = some ⟨g, 0, none⟩ ∧ W.cell? ⟨g, i * 4, none⟩ = some (I p.n) ∧ W.cell? ⟨g, i * 4 + 1, none⟩ = some (I p.top) ∧ W.cell? ⟨g, i * 4 + 2, none⟩ = some (I p.am) ∧ W.cell? ⟨g, i * 4 + 3, none⟩ = some (I p.an) ∧ (∀ j, W.frozen? ⟨g, j, none⟩ = false) ∧ g < W.heap.size := by
  have h1 := (List.getElem?_eq_some_iff.1 hi).1
  obtain ⟨g, cap', cur, e1, _, hg, _, _, _, hx⟩ := own_open own (by omega)
  simp only [Value.slice.injEq] at e1
  obtain ⟨p0, p1, p2, p3⟩ := rows_at es i p hi
  exact ⟨g, e1.1, hx _ _ p0, hx _ _ p1, hx _ _ p2, hx _ _ p3, frozen_of hg, lt_of_heap hg⟩
/-- Another row of mounts is stored. -/
theorem Ls.setRow {a : Option Addr} {m cap : Nat} (h : Ls base W b rt md es) (own : W.ownsRow base 59 4 (.slice a m cap) m (rowsOf row es')) (hm : es'.length = m) : Ls base (W.setCell ⟨b, 2, none⟩ (.slice a m cap)) b rt md es' := by
  obtain ⟨a0, cap0, h1, h2⟩ := h.hb
  subst hm
  refine ⟨⟨a, cap, ?_, own_keep own fun k cur hc => Below.heap_setCell _ _ _ _ ?_⟩, h.kb⟩
  · rw [heap_set h1]; simp
  · rintro rfl
    rw [h1] at hc
    simp at hc
/-- One more was bound. -/
theorem Ls.setMade (h : Ls base W b rt md es) (md' : Int) : Ls base (W.setCell ⟨b, 1, none⟩ (I md')) b rt md' es := by
  obtain ⟨a, cap, h1, h2⟩ := h.hb
  refine ⟨⟨a, cap, ?_, own_keep h2 fun k cur hc => Below.heap_setCell _ _ _ _ ?_⟩, h.kb⟩
  · rw [heap_set h1]; simp
  · rintro rfl
    rw [h1] at hc
    simp at hc
end
set_option maxHeartbeats 400000 in
theorem new_any (r : Int) (w : World) :
    Calls Try.prog 8 #[I r] w fun e w' => e = .returned (.pointer (some ⟨w.heap.size, 0, none⟩)) ∧
      Ls w.heap.size w' w.heap.size r 0 [] ∧ Below w.heap.size w w' := by
  go_enter Try.func8, Try.ntmps8
  go_wp2_with fail
  go_ret
  exact ⟨rfl, ⟨⟨none, 0, putAll _ _ rfl, World.ownsRow_nil _ _ _ _⟩, Nat.le_refl _⟩, (Below.refl _ w).alloc (Nat.le_refl _) _⟩
theorem rising_any (b : Nat) (w : World) :
    Calls Try.prog 36 #[.pointer (some ⟨b, 0, none⟩)] w fun e w' =>
      e = .returned (.func (.func 42) #[] #[.pointer (some ⟨w.heap.size, 0, none⟩)]) ∧ w' = w.alloc (.cells #[.pointer (some ⟨b, 0, none⟩)] 22) := by
  go_enter Try.func36, Try.ntmps36
  go_wp2
  go_ret
  exact ⟨rfl, rfl⟩
/-- A cell that lay lies in a world with one block more. -/
theorem cell_alloc {w : World} {x i : Nat} {v : Value} (h : w.cell? ⟨x, i, none⟩ = some v) (o : Obj) : (w.alloc o).cell? ⟨x, i, none⟩ = some v := by
  have hx : x < w.heap.size := by
    rcases Nat.lt_or_ge x w.heap.size with h1 | h1
    · exact h1
    · simp [World.cell?, Array.getElem?_eq_none h1] at h
  rw [← h]
  exact World.cell?_of_block (Below.heap_alloc _ _ _ hx)
theorem below_alloc (w : World) (o : Obj) : Below w.heap.size w (w.alloc o) := (Below.refl _ w).alloc (Nat.le_refl _) o
/-- The closures: is it this number; does it lie at a place of this mount, of this node, at this place. -/
theorem num1_any (p : Ld) (x : Nat) (m : Int) (w : World) (h : w.cell? ⟨x, 0, none⟩ = some (I m)) :
    Calls Try.prog 39 #[lv p, .pointer (some ⟨x, 0, none⟩)] w fun e w' => e = .returned (.bool (decide (p.n = m))) ∧ Below w.heap.size w w' := by
  have h1 := cell_alloc h (.cells #[I p.n, I p.top, I p.am, I p.an] 59)
  unfold lv
  go_enter Try.func39, Try.ntmps39
  go_wp2_with fail
  go_ret
  exact ⟨rfl, below_alloc _ _⟩
theorem un2_any (p : Ld) (x : Nat) (m : Int) (w : World) (h : w.cell? ⟨x, 0, none⟩ = some (I m)) :
    Calls Try.prog 33 #[lv p, .pointer (some ⟨x, 0, none⟩)] w fun e w' => e = .returned (.bool (decide (p.n = m))) ∧ Below w.heap.size w w' := by
  have h1 := cell_alloc h (.cells #[I p.n, I p.top, I p.am, I p.an] 59)
  unfold lv
  go_enter Try.func33, Try.ntmps33
  go_wp2_with fail
  go_ret
  exact ⟨rfl, below_alloc _ _⟩
theorem un1_any (p : Ld) (x : Nat) (m : Int) (w : World) (h : w.cell? ⟨x, 0, none⟩ = some (I m)) :
    Calls Try.prog 31 #[lv p, .pointer (some ⟨x, 0, none⟩)] w fun e w' => e = .returned (.bool (decide (p.am = m))) ∧ Below w.heap.size w w' := by
  have h1 := cell_alloc h (.cells #[I p.n, I p.top, I p.am, I p.an] 59)
  unfold lv
  go_enter Try.func31, Try.ntmps31
  go_wp2_with fail
  go_ret
  exact ⟨rfl, below_alloc _ _⟩
theorem cov1_any (p : Ld) (x : Nat) (m : Int) (w : World) (h : w.cell? ⟨x, 0, none⟩ = some (I m)) :
    Calls Try.prog 35 #[lv p, .pointer (some ⟨x, 0, none⟩)] w fun e w' => e = .returned (.bool (decide (p.an = m))) ∧ Below w.heap.size w w' := by
  have h1 := cell_alloc h (.cells #[I p.n, I p.top, I p.am, I p.an] 59)
  unfold lv
  go_enter Try.func35, Try.ntmps35
  go_wp2_with fail
  go_ret
  exact ⟨rfl, below_alloc _ _⟩
theorem lie1_any (p : Ld) (x : Nat) (m n : Int) (w : World) (h0 : w.cell? ⟨x, 0, none⟩ = some (I m)) (h1 : w.cell? ⟨x, 1, none⟩ = some (I n)) :
    Calls Try.prog 41 #[lv p, .pointer (some ⟨x, 0, none⟩)] w fun e w' => e = .returned (.bool (decide (p.am = m ∧ p.an = n))) ∧ Below w.heap.size w w' := by
  have h2 := cell_alloc h0 (.cells #[I p.n, I p.top, I p.am, I p.an] 59)
  have h3 := cell_alloc h1 (.cells #[I p.n, I p.top, I p.am, I p.an] 59)
  unfold lv
  go_enter Try.func41, Try.ntmps41
  go_wp2_with fail
  · rename_i e1 e2
    go_ret
    exact ⟨by rw [decide_eq_true (p := p.am = m ∧ p.an = n) ⟨e1, e2⟩]; rfl, below_alloc _ _⟩
  · rename_i e1 e2
    go_ret
    exact ⟨by rw [decide_eq_false (p := p.am = m ∧ p.an = n) (fun h => e2 h.2)]; rfl, below_alloc _ _⟩
  · rename_i e1
    go_ret
    exact ⟨by rw [decide_eq_false (p := p.am = m ∧ p.an = n) (fun h => e1 h.1)]; rfl, below_alloc _ _⟩
end Go.Proofs.Ythmpplcaomgdoaa.Mt
