/-
  A run's machines lie in one block, fifteen cells each; what a walk is told of one of them, and what a store into one of its cells leaves.
-/
import Derived.Test.YtkgeapmafpeapaaSame
namespace Go.Proofs.Ytkgeapmafpeapaa
open Go.RowKit

/-- A machine, field by field. -/
structure Mach where
  kind : Int
  at_ : Nat
  work : Int
  A : Int
  B : Int
  mark : Int
  done : Bool
  sA : Int
  sB : Int
  tries : Int
  next : Int
  left : Int
  count : Int
  a : Int
  b : Int

def Mach.row (M : Mach) : List Value :=
  [.int .i64 M.kind, .int .i64 (M.at_ : Int), .int .i64 M.work, .int .i64 M.A, .int .i64 M.B, .int .i64 M.mark, .bool M.done, .int .i64 M.sA, .int .i64 M.sB, .int .i64 M.tries, .int .i64 M.next, .int .i64 M.left, .int .i64 M.count, .int .i64 M.a, .int .i64 M.b]
theorem Mach.row_length (M : Mach) : M.row.length = 15 := rfl

/-- Rows of one length, one behind the other. -/
def rowsOf {α : Type} (r : α → List Value) (ms : List α) : List Value := ms.flatMap r
theorem rowsOf_length {α : Type} (r : α → List Value) (k : Nat) (hr : ∀ x, (r x).length = k) (ms : List α) : (rowsOf r ms).length = k * ms.length := by
  induction ms with
  | nil => rfl
  | cons x l ih => simp only [rowsOf, List.flatMap_cons, List.length_append, List.length_cons] at *; rw [ih, hr, Nat.mul_succ]; omega
theorem rowsOf_get {α : Type} (r : α → List Value) (k : Nat) (hr : ∀ x, (r x).length = k) (ms : List α) (i f : Nat) (M : α) (hi : ms[i]? = some M) (hf : f < k) : (rowsOf r ms)[k * i + f]? = (r M)[f]? := by
  induction ms generalizing i with
  | nil => simp at hi
  | cons x l ih =>
    simp only [rowsOf, List.flatMap_cons]
    cases i with
    | zero => simp at hi; subst hi; rw [List.getElem?_append_left (by rw [hr]; omega)]; simp
    | succ j =>
      have := ih j (by simpa using hi)
      rw [List.getElem?_append_right (by rw [hr, Nat.mul_succ]; omega), hr, ← this]
      rw [Nat.mul_succ, show k * j + k + f - k = k * j + f by omega]; rfl
theorem rowsOf_set {α : Type} (r : α → List Value) (k : Nat) (hr : ∀ x, (r x).length = k) (ms : List α) (i f : Nat) (M M' : α) (v : Value) (hi : ms[i]? = some M) (hf : f < k) (he : r M' = (r M).set f v) :
    (rowsOf r ms).set (k * i + f) v = rowsOf r (ms.set i M') := by
  induction ms generalizing i with
  | nil => simp at hi
  | cons x l ih =>
    simp only [rowsOf, List.flatMap_cons]
    cases i with
    | zero => simp at hi; subst hi; rw [List.set_append_left _ _ (by rw [hr]; omega)]; simp [he]
    | succ j =>
      have := ih j (by simpa using hi)
      rw [List.set_append_right _ _ (by rw [hr, Nat.mul_succ]; omega), hr]
      rw [Nat.mul_succ, show k * j + k + f - k = k * j + f by omega]
      simp only [rowsOf] at this
      simp [this]

/-- But for three blocks all that lay lies as it lay. -/
structure Frq (b c q : Nat) (w w' : World) : Prop where
  os : w'.os = w.os
  tape : w'.tape = w.tape
  output : w'.output = w.output
  size : w.heap.size ≤ w'.heap.size
  block : ∀ k, k < w.heap.size → k ≠ b → k ≠ c → k ≠ q → w'.heap[k]? = w.heap[k]?
theorem Frq.refl (b c q : Nat) (w : World) : Frq b c q w w := ⟨rfl, rfl, rfl, Nat.le_refl _, fun _ _ _ _ _ => rfl⟩
theorem Frq.trans {b c q : Nat} {u v w : World} (h : Frq b c q u v) (g : Frq b c q v w) : Frq b c q u w :=
  ⟨g.os.trans h.os, g.tape.trans h.tape, g.output.trans h.output, Nat.le_trans h.size g.size, fun k hk h1 h2 h3 => (g.block k (Nat.lt_of_lt_of_le hk h.size) h1 h2 h3).trans (h.block k hk h1 h2 h3)⟩
theorem Frq.of_frm {b c q : Nat} {w w' : World} (h : Frm b c w w') : Frq b c q w w' := ⟨h.os, h.tape, h.output, h.size, fun k hk h1 h2 _ => h.block k hk h1 h2⟩
theorem Frq.of_below {b c q : Nat} {w w' : World} (h : Below w.heap.size w w') : Frq b c q w w' := ⟨h.os, h.tape, h.output, h.size, fun k hk _ _ _ => h.block k hk⟩
theorem Frq.drew {b c q : Nat} {u w : World} (h : Frq b c q u w) : Frq b c q u w.drew := ⟨h.os, h.tape, h.output, h.size, h.block⟩
theorem Frq.set {b c q : Nat} {u w : World} (h : Frq b c q u w) (i : Nat) (v : Value) : Frq b c q u (w.setCell ⟨q, i, none⟩ v) :=
  h.trans ⟨rfl, rfl, rfl, by simp [World.setCell], fun k _ h1 h2 h3 => Below.heap_setCell _ _ _ _ h3⟩
theorem Frq.below {B b c q : Nat} {w w' : World} (h : Frq b c q w w') (hb : B ≤ b) (hc : B ≤ c) (hq : B ≤ q) (hB : B ≤ w.heap.size) : Below B w w' :=
  ⟨h.os, h.tape, h.output, h.size, fun k hk => h.block k (by omega) (by omega) (by omega) (by omega)⟩

/-- A memory and the machines that go on in it. -/
structure Sys (W : World) (b c q n : Nat) (ws : List Int) (st : Int) (ms : List Mach) : Prop where
  mem : ∃ (k a o v : Int) (d : Bool), Mem W b c n ws st k a o v d
  blk : W.heap[q]? = some (.cells (rowsOf Mach.row ms).toArray 76)
  qb : q ≠ b
  qc : q ≠ c

theorem Sys.qlt {W : World} {b c q n : Nat} {ws : List Int} {st : Int} {ms : List Mach} (h : Sys W b c q n ws st ms) : q < W.heap.size := (Array.getElem?_eq_some_iff.1 h.blk).1
theorem Sys.blt {W : World} {b c q n : Nat} {ws : List Int} {st : Int} {ms : List Mach} (h : Sys W b c q n ws st ms) : b < W.heap.size := by obtain ⟨k, a, o, v, d, h⟩ := h.mem; exact h.blt
theorem Sys.clt {W : World} {b c q n : Nat} {ws : List Int} {st : Int} {ms : List Mach} (h : Sys W b c q n ws st ms) : c < W.heap.size := by obtain ⟨k, a, o, v, d, h⟩ := h.mem; exact h.clt
theorem Sys.of {W W' : World} {b c q n : Nat} {ws : List Int} {st : Int} {ms : List Mach} (h : Sys W b c q n ws st ms) (e1 : W'.heap[b]? = W.heap[b]?) (e2 : W'.heap[c]? = W.heap[c]?) (e3 : W'.heap[q]? = W.heap[q]?) : Sys W' b c q n ws st ms := by
  obtain ⟨k, a, o, v, d, hm⟩ := h.mem
  exact ⟨⟨k, a, o, v, d, hm.of e1 e2⟩, e3.trans h.blk, h.qb, h.qc⟩
theorem Sys.below {W W' : World} {b c q n : Nat} {ws : List Int} {st : Int} {ms : List Mach} (h : Sys W b c q n ws st ms) (g : Below W.heap.size W W') : Sys W' b c q n ws st ms :=
  h.of (g.block _ h.blt) (g.block _ h.clt) (g.block _ h.qlt)
theorem Sys.drew {W : World} {b c q n : Nat} {ws : List Int} {st : Int} {ms : List Mach} (h : Sys W b c q n ws st ms) : Sys W.drew b c q n ws st ms := h.of rfl rfl rfl
theorem Sys.alloc {W : World} {b c q n : Nat} {ws : List Int} {st : Int} {ms : List Mach} (h : Sys W b c q n ws st ms) (ob : Obj) : Sys (W.alloc ob) b c q n ws st ms :=
  h.below ((Below.refl _ W).alloc (Nat.le_refl _) ob)
theorem Sys.acc {W W' : World} {b c q n : Nat} {ws ws' : List Int} {st st' : Int} {ms : List Mach} (h : Sys W b c q n ws st ms) (hm : ∃ (k a o v : Int) (d : Bool), Mem W' b c n ws' st' k a o v d) (g : Frm b c W W') : Sys W' b c q n ws' st' ms :=
  ⟨hm, (g.block _ h.qlt h.qb h.qc).trans h.blk, h.qb, h.qc⟩

theorem Sys.cell {W : World} {b c q n : Nat} {ws : List Int} {st : Int} {ms : List Mach} (h : Sys W b c q n ws st ms) {i : Nat} {M : Mach} (hi : ms[i]? = some M) (f : Nat) (hf : f < 15) : W.cell? ⟨q, 15 * i + f, none⟩ = M.row[f]? := by
  rw [cell_of h.blk, List.getElem?_toArray]
  exact rowsOf_get Mach.row 15 Mach.row_length ms i f M hi hf
theorem Sys.put {W : World} {b c q n : Nat} {ws : List Int} {st : Int} {ms : List Mach} (h : Sys W b c q n ws st ms) {i : Nat} {M : Mach} (hi : ms[i]? = some M) (f : Nat) (hf : f < 15) (v : Value) (M' : Mach) (he : M'.row = M.row.set f v) :
    Sys (W.setCell ⟨q, 15 * i + f, none⟩ v) b c q n ws st (ms.set i M') := by
  obtain ⟨k, a, o, u, d, hm⟩ := h.mem
  refine ⟨⟨k, a, o, u, d, hm.of (Below.heap_setCell _ _ _ _ (Ne.symm h.qb)) (Below.heap_setCell _ _ _ _ (Ne.symm h.qc))⟩, ?_, h.qb, h.qc⟩
  rw [heap_set h.blk _ v, ← rowsOf_set Mach.row 15 Mach.row_length ms i f M M' v hi hf he]
  simp

/-- The cells of machine i, whose first lies at p. -/
structure Cells (W : World) (q p : Nat) (M : Mach) : Prop where
  c0 : W.cell? ⟨q, p, none⟩ = some (.int .i64 M.kind)
  c1 : W.cell? ⟨q, p + 1, none⟩ = some (.int .i64 (M.at_ : Int))
  c2 : W.cell? ⟨q, p + 2, none⟩ = some (.int .i64 M.work)
  c3 : W.cell? ⟨q, p + 3, none⟩ = some (.int .i64 M.A)
  c4 : W.cell? ⟨q, p + 4, none⟩ = some (.int .i64 M.B)
  c5 : W.cell? ⟨q, p + 5, none⟩ = some (.int .i64 M.mark)
  c6 : W.cell? ⟨q, p + 6, none⟩ = some (.bool M.done)
  c7 : W.cell? ⟨q, p + 7, none⟩ = some (.int .i64 M.sA)
  c8 : W.cell? ⟨q, p + 8, none⟩ = some (.int .i64 M.sB)
  c9 : W.cell? ⟨q, p + 9, none⟩ = some (.int .i64 M.tries)
  c10 : W.cell? ⟨q, p + 10, none⟩ = some (.int .i64 M.next)
  c11 : W.cell? ⟨q, p + 11, none⟩ = some (.int .i64 M.left)
  c12 : W.cell? ⟨q, p + 12, none⟩ = some (.int .i64 M.count)
  c13 : W.cell? ⟨q, p + 13, none⟩ = some (.int .i64 M.a)
  c14 : W.cell? ⟨q, p + 14, none⟩ = some (.int .i64 M.b)
  fr : ∀ i, W.frozen? ⟨q, i, none⟩ = false
theorem Sys.cells {W : World} {b c q n : Nat} {ws : List Int} {st : Int} {ms : List Mach} (h : Sys W b c q n ws st ms) {i : Nat} {M : Mach} (hi : ms[i]? = some M) : Cells W q (15 * i) M :=
  ⟨h.cell hi 0 (by omega), h.cell hi 1 (by omega), h.cell hi 2 (by omega), h.cell hi 3 (by omega), h.cell hi 4 (by omega), h.cell hi 5 (by omega), h.cell hi 6 (by omega), h.cell hi 7 (by omega), h.cell hi 8 (by omega),
   h.cell hi 9 (by omega), h.cell hi 10 (by omega), h.cell hi 11 (by omega), h.cell hi 12 (by omega), h.cell hi 13 (by omega), h.cell hi 14 (by omega), frozen_of h.blk⟩

theorem set_get {ms : List Mach} {i : Nat} {M : Mach} (hi : ms[i]? = some M) (M' : Mach) : (ms.set i M')[i]? = some M' := by
  have := (List.getElem?_eq_some_iff.1 hi).1
  simp [this]

/-- What enter, again and toil make of a machine. -/
def Mach.enter (M : Mach) (nx : Int) : Mach := if nx = 3 then { M with next := 3, left := M.work } else { M with next := nx }
def Mach.again (M : Mach) : Mach := { M with tries := M.tries + 1, next := 0 }
def Mach.toil (M : Mach) : Mach := { M with left := M.left - 1 }

set_option maxHeartbeats 400000 in
theorem enter_work (b c q n i : Nat) (ws : List Int) (st : Int) (ms : List Mach) (M : Mach) (w : World) (hS : Sys w b c q n ws st ms) (hi : ms[i]? = some M) :
    Calls Try.prog 44 #[.pointer (some ⟨q, 15 * i, none⟩), .int .i64 3] w fun e w' => e = .returned (.tuple #[]) ∧ Sys w' b c q n ws st (ms.set i { M with next := 3, left := M.work }) ∧ Frq b c q w w' := by
  have R1 := hS.put hi 10 (by omega) (.int .i64 3) { M with next := 3 } rfl
  have R2 := R1.put (set_get hi _) 11 (by omega) (.int .i64 M.work) { M with next := 3, left := M.work } rfl
  rw [List.set_set] at R2
  have F2 := ((Frq.refl b c q w).set (15 * i + 10) (.int .i64 3)).set (15 * i + 11) (.int .i64 M.work)
  obtain ⟨c0, c1, c2, c3, c4, c5, c6, c7, c8, c9, c10, c11, c12, c13, c14, fr⟩ := hS.cells hi
  generalize 15 * i = p at *
  have R := hide R2
  have F := hide F2
  clear R1 R2 F2
  go_enter Try.func44, Try.ntmps44
  go_wp2
  go_end0
  exact ⟨rfl, unhide R, unhide F⟩
end Go.Proofs.Ytkgeapmafpeapaa
