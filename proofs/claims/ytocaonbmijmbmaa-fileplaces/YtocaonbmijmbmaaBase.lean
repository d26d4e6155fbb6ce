/-
  A table of open files in its one block: how many may be open, how many are, and the files, six cells each; what a walk is told of it, what a store leaves; the contracts of isProc, open and Count.
-/
import Derived.Test.YtocaonbmijmbmaaRows
import Derived.WalkKit
import Derived.WalkSpells
import Derived.Deep.RegionHeld3
import Derived.Deep.DrawnRows
import Derived.Deep.QuietTactic
import Derived.BigQuiet
import Derived.Deep.OwnRows
import Derived.Laws.CopyOwn
import Derived.ArgAppend
namespace Go.Proofs.Ytocaonbmijmbmaa
open Go.RowKit
attribute [local go_sem ↓] Go.wp_at_zero Go.wp_at_succ

abbrev I (x : Int) : Value := .int .i64 x
theorem hide {p : Prop} (h : p) : Hid p := h
theorem unhide {p : Prop} (h : Hid p) : p := h
theorem putAll {w : World} (o : Obj) (h : Nat) (hh : h = w.heap.size) : (w.alloc o).heap[h]? = some o := by
  subst hh; exact heap_alloc_new w o
theorem below_dn {B : Nat} {u w : World} (h : Below B u w) (m : Nat) : Below B u (w.drewN m) := ⟨h.os, h.tape, h.output, h.size, h.block⟩
theorem below_d {B : Nat} {u w : World} (h : Below B u w) : Below B u w.drew := ⟨h.os, h.tape, h.output, h.size, h.block⟩
theorem lt_of_heap {W : World} {k : Nat} {o : Obj} (e : W.heap[k]? = some o) : k < W.heap.size := (Array.getElem?_eq_some_iff.1 e).1

/-- But for the block b all that lay lies as it lay; no block has gone. -/
structure Fr (b : Nat) (w w' : World) : Prop where
  os : w'.os = w.os
  tape : w'.tape = w.tape
  output : w'.output = w.output
  size : w.heap.size ≤ w'.heap.size
  block : ∀ k, k < w.heap.size → k ≠ b → w'.heap[k]? = w.heap[k]?

theorem Fr.refl (b : Nat) (w : World) : Fr b w w := ⟨rfl, rfl, rfl, Nat.le_refl _, fun _ _ _ => rfl⟩
theorem Fr.trans {b : Nat} {u v w : World} (h : Fr b u v) (g : Fr b v w) : Fr b u w :=
  ⟨g.os.trans h.os, g.tape.trans h.tape, g.output.trans h.output, Nat.le_trans h.size g.size, fun k hk h1 => (g.block k (Nat.lt_of_lt_of_le hk h.size) h1).trans (h.block k hk h1)⟩
theorem Fr.of_below {b : Nat} {w w' : World} (h : Below w.heap.size w w') : Fr b w w' := ⟨h.os, h.tape, h.output, h.size, fun k hk _ => h.block k hk⟩
theorem Fr.alloc {b : Nat} {u w : World} (h : Fr b u w) (o : Obj) : Fr b u (w.alloc o) :=
  h.trans (.of_below ((Below.refl _ w).alloc (Nat.le_refl _) o))
theorem Fr.drew {b : Nat} {u w : World} (h : Fr b u w) : Fr b u w.drew := ⟨h.os, h.tape, h.output, h.size, h.block⟩
theorem Fr.dn {b : Nat} {u w : World} (h : Fr b u w) (m : Nat) : Fr b u (w.drewN m) := ⟨h.os, h.tape, h.output, h.size, h.block⟩
theorem Fr.set {b : Nat} {u w : World} (h : Fr b u w) {p : Addr} (hp : p.block = b) (v : Value) : Fr b u (w.setCell p v) :=
  h.trans ⟨rfl, rfl, rfl, by simp [World.setCell], fun k _ h1 => Below.heap_setCell _ _ _ _ (by omega)⟩
theorem Fr.setNew {b : Nat} {u w : World} (h : Fr b u w) {p : Addr} (hp : u.heap.size ≤ p.block) (v : Value) : Fr b u (w.setCell p v) :=
  ⟨h.os, h.tape, h.output, by have := h.size; simp [World.setCell]; omega, fun k hk h1 => (Below.heap_setCell _ _ _ _ (by omega)).trans (h.block k hk h1)⟩
theorem Fr.below {B b : Nat} {w w' : World} (h : Fr b w w') (hb : B ≤ b) (hB : B ≤ w.heap.size) : Below B w w' :=
  ⟨h.os, h.tape, h.output, h.size, fun k hk => h.block k (by omega) (by omega)⟩

/-- Rows of one length, one behind the other. -/
def rowsOf {α : Type} (r : α → List Value) (ms : List α) : List Value := ms.flatMap r
theorem rowsOf_length {α : Type} (r : α → List Value) (k : Nat) (hr : ∀ x, (r x).length = k) (ms : List α) : (rowsOf r ms).length = k * ms.length := by
  induction ms with
  | nil => rfl
  | cons x l ih => simp only [rowsOf, List.flatMap_cons, List.length_append, List.length_cons] at *; rw [ih, hr, Nat.mul_succ]; omega
theorem rowsOf_get {α : Type} (r : α → List Value) (k : Nat) (hr : ∀ x, (r x).length = k) (ms : List α) (i f : Nat) (M : α) (hi : ms[i]? = some M) (hf : f < k) : (rowsOf r ms)[k * i + f]? = (r M)[f]? := by
  induction ms generalizing i with
  | nil => simp at hi
  | cons x l ih =>
    simp only [rowsOf, List.flatMap_cons]
    cases i with
    | zero => simp at hi; subst hi; rw [List.getElem?_append_left (by rw [hr]; omega)]; simp
    | succ j =>
      have := ih j (by simpa using hi)
      rw [List.getElem?_append_right (by rw [hr, Nat.mul_succ]; omega), hr, ← this]
      rw [Nat.mul_succ, show k * j + k + f - k = k * j + f by omega]; rfl
theorem rowsOf_set {α : Type} (r : α → List Value) (k : Nat) (hr : ∀ x, (r x).length = k) (ms : List α) (i f : Nat) (M M' : α) (v : Value) (hi : ms[i]? = some M) (hf : f < k) (he : r M' = (r M).set f v) :
    (rowsOf r ms).set (k * i + f) v = rowsOf r (ms.set i M') := by
  induction ms generalizing i with
  | nil => simp at hi
  | cons x l ih =>
    simp only [rowsOf, List.flatMap_cons]
    cases i with
    | zero => simp at hi; subst hi; rw [List.set_append_left _ _ (by rw [hr]; omega)]; simp [he]
    | succ j =>
      have := ih j (by simpa using hi)
      rw [List.set_append_right _ _ (by rw [hr, Nat.mul_succ]; omega), hr]
      rw [Nat.mul_succ, show k * j + k + f - k = k * j + f by omega]
      simp only [rowsOf] at this
      simp [this]

/-- The cells of a block that is known. -/
theorem cell_of {W : World} {b : Nat} {cs : Array Value} {t : TypeId} {f : Nat × Nat} (h : W.heap[b]? = some (.cells cs t f)) (i : Nat) : W.cell? ⟨b, i, none⟩ = cs[i]? := by
  simp [World.cell?, h]
theorem frozen_of {W : World} {b : Nat} {cs : Array Value} {t : TypeId} (h : W.heap[b]? = some (.cells cs t)) (i : Nat) : W.frozen? ⟨b, i, none⟩ = false := by
  simp [World.frozen?, h]
/-- A store into a block that is known. -/
theorem heap_set {W : World} {b : Nat} {cs : Array Value} {t : TypeId} {f : Nat × Nat} (h : W.heap[b]? = some (.cells cs t f)) (i : Nat) (v : Value) :
    (W.setCell ⟨b, i, none⟩ v).heap[b]? = some (.cells (cs.setIfInBounds i v) t f) := by
  obtain ⟨hl, he⟩ := Array.getElem?_eq_some_iff.1 h
  simp [World.setCell, Array.getElem?_modify, h]
theorem get_set {α : Type} {xs : List α} {i : Nat} {x : α} (hi : xs[i]? = some x) (y : α) : (xs.set i y)[i]? = some y := by
  have := (List.getElem?_eq_some_iff.1 hi).1
  simp [this]

/-- An open file: whose it is, its descriptor, its place, its flags, where it is gone on with. -/
structure Op where
  p : Int
  d : Int
  m : Int
  n : Int
  f : Int
  s : Int
deriving DecidableEq
def Op.row (o : Op) : List Value := [I o.p, I o.d, I o.m, I o.n, I o.f, I o.s]
theorem Op.row_length (o : Op) : (Op.row o).length = 6 := rfl
abbrev Op.v (o : Op) : Value := .agg #[I o.p, I o.d, I o.m, I o.n, I o.f, I o.s]

/-- The block of a table. -/
def tcells (n c : Nat) (fs : List Op) : Array Value := (I n :: I c :: rowsOf Op.row fs).toArray
theorem tcells_at {n c : Nat} {fs : List Op} {i f : Nat} {o : Op} (hi : fs[i]? = some o) (hf : f < 6) : (tcells n c fs)[2 + i * 6 + f]? = (Op.row o)[f]? := by
  unfold tcells
  rw [List.getElem?_toArray, show 2 + i * 6 + f = (6 * i + f) + 1 + 1 by omega, List.getElem?_cons_succ, List.getElem?_cons_succ]
  exact rowsOf_get Op.row 6 Op.row_length fs i f o hi hf
theorem tcells_set {n c : Nat} {fs : List Op} {i f : Nat} {o o' : Op} {v : Value} (hi : fs[i]? = some o) (hf : f < 6) (he : Op.row o' = (Op.row o).set f v) :
    (tcells n c fs).setIfInBounds (2 + i * 6 + f) v = tcells n c (fs.set i o') := by
  unfold tcells
  rw [List.setIfInBounds_toArray, show 2 + i * 6 + f = (6 * i + f) + 1 + 1 by omega, List.set_cons_succ, List.set_cons_succ, rowsOf_set Op.row 6 Op.row_length fs i f o o' v hi hf he]
theorem tcells_cnt (n c c' : Nat) (fs : List Op) : (tcells n c fs).setIfInBounds 1 (I c') = tcells n c' fs := by
  unfold tcells
  rw [List.setIfInBounds_toArray]; rfl

/-- A table: in block b; n may be open, es are. -/
structure Tb (W : World) (b n : Nat) (es : List Op) : Prop where
  hb : ∃ rest, W.heap[b]? = some (.cells (tcells n es.length (es ++ rest)) 65) ∧ es.length + rest.length = 64
  n1 : 1 ≤ n
  n64 : n ≤ 64
  le : es.length ≤ n
theorem Tb.lt {W : World} {b n : Nat} {es : List Op} (h : Tb W b n es) : b < W.heap.size := by
  obtain ⟨r, hr, _⟩ := h.hb; exact lt_of_heap hr
theorem Tb.of {W W' : World} {b n : Nat} {es : List Op} (h : Tb W b n es) (e : W'.heap[b]? = W.heap[b]?) : Tb W' b n es := by
  obtain ⟨r, hr, hl⟩ := h.hb
  exact ⟨⟨r, e.trans hr, hl⟩, h.n1, h.n64, h.le⟩
theorem Tb.below {W W' : World} {b n : Nat} {es : List Op} (h : Tb W b n es) (g : Below W.heap.size W W') : Tb W' b n es := h.of (g.block _ h.lt)
theorem Tb.drew {W : World} {b n : Nat} {es : List Op} (h : Tb W b n es) : Tb W.drew b n es := h.of rfl
theorem Tb.dn {W : World} {b n : Nat} {es : List Op} (h : Tb W b n es) (m : Nat) : Tb (W.drewN m) b n es := h.of rfl
theorem Tb.fr {W W' : World} {b n r : Nat} {es : List Op} (h : Tb W b n es) (g : Fr r W W') (hne : b ≠ r) : Tb W' b n es := h.of (g.block _ h.lt hne)
theorem Tb.c64 {W : World} {b n : Nat} {es : List Op} (h : Tb W b n es) : es.length ≤ 64 := Nat.le_trans h.le h.n64
theorem Tb.cells {W : World} {b n : Nat} {es : List Op} (h : Tb W b n es) :
    W.cell? ⟨b, 0, none⟩ = some (I n) ∧ W.cell? ⟨b, 1, none⟩ = some (I es.length) ∧ ∀ i, W.frozen? ⟨b, i, none⟩ = false := by
  obtain ⟨r, hr, hl⟩ := h.hb
  exact ⟨by rw [cell_of hr]; rfl, by rw [cell_of hr]; rfl, frozen_of hr⟩
theorem Tb.file {W : World} {b n : Nat} {es : List Op} (h : Tb W b n es) {i : Nat} {o : Op} (hi : es[i]? = some o) :
    W.cell? ⟨b, 2 + i * 6, none⟩ = some (I o.p) ∧ W.cell? ⟨b, 2 + i * 6 + 1, none⟩ = some (I o.d) ∧ W.cell? ⟨b, 2 + i * 6 + 2, none⟩ = some (I o.m) ∧ W.cell? ⟨b, 2 + i * 6 + 3, none⟩ = some (I o.n) ∧ W.cell? ⟨b, 2 + i * 6 + 4, none⟩ = some (I o.f) ∧ W.cell? ⟨b, 2 + i * 6 + 5, none⟩ = some (I o.s) := by
  obtain ⟨r, hr, hl⟩ := h.hb
  have hi' : (es ++ r)[i]? = some o := by rw [List.getElem?_append_left (List.getElem?_eq_some_iff.1 hi).1]; exact hi
  refine ⟨?_, ?_, ?_, ?_, ?_, ?_⟩ <;> rw [cell_of hr]
  · exact tcells_at hi' (f := 0) (by omega)
  · exact tcells_at hi' (f := 1) (by omega)
  · exact tcells_at hi' (f := 2) (by omega)
  · exact tcells_at hi' (f := 3) (by omega)
  · exact tcells_at hi' (f := 4) (by omega)
  · exact tcells_at hi' (f := 5) (by omega)

/-- Is there such a process? -/
def isP (p : Int) : Bool := decide (0 ≤ p) && decide (p < 8)

set_option maxHeartbeats 400000 in
theorem isProc_any (p : Int) (w : World) : Calls Try.prog 29 #[I p] w fun e w' => e = .returned (.bool (isP p)) ∧ w' = w := by
  by_cases h0 : 0 ≤ p
  · by_cases h1 : p < 8
    · rw [show isP p = true by simp [isP, h0, h1]]
      go_enter Try.func29, Try.ntmps29
      go_wp2
      go_ret
      exact ⟨rfl, rfl⟩
    · rw [show isP p = false by simp [isP, h1]]
      go_enter Try.func29, Try.ntmps29
      go_wp2
      go_ret
      exact ⟨rfl, rfl⟩
  · rw [show isP p = false by simp [isP, h0]]
    go_enter Try.func29, Try.ntmps29
    go_wp2
    go_ret
    exact ⟨rfl, rfl⟩
set_option maxHeartbeats 400000 in
theorem count_any (b n c : Nat) (es : List Op) (w : World) (h : Tb w b n es) (hc : es.length = c) :
    Calls Try.prog 12 #[.pointer (some ⟨b, 0, none⟩)] w fun e w' => e = .returned (I c) ∧ w' = w := by
  obtain ⟨h0, h1, hf⟩ := h.cells
  rw [hc] at h1
  go_enter Try.func12, Try.ntmps12
  go_wp2
  go_ret
  exact ⟨rfl, rfl⟩
set_option maxRecDepth 100000 in
set_option maxHeartbeats 400000 in
theorem open_any (b n c : Nat) (es : List Op) (w : World) (h : Tb w b n es) (hc : es.length = c) :
    Calls Try.prog 32 #[.pointer (some ⟨b, 0, none⟩)] w fun e w' => e = .returned (.slice (some ⟨b, 2, none⟩) c 64) ∧ Below w.heap.size w w' := by
  obtain ⟨h0, h1, hf⟩ := h.cells
  have h64 := h.c64
  rw [hc] at h1 h64
  have j0 : (0 : Int) ≤ (c : Int) := by omega
  have j1 : (c : Int) ≤ 64 := by omega
  clear h
  go_enter Try.func32, Try.ntmps32
  go_wp2_with fail
  go_region
  all_goals go_wp2_with fail
  all_goals go_ret
  all_goals exact ⟨rfl, below_d (Below.refl _ _)⟩
end Go.Proofs.Ytocaonbmijmbmaa
