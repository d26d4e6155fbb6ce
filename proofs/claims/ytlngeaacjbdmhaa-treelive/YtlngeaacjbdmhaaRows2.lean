/-
  Rows of entries, one behind the other.
-/
import Derived.Test.YtlngeaacjbdmhaaOpsB
namespace Go.Proofs.Ytlngeaacjbdmhaa
open Go.RowKit

/-- Rows of one length, one behind the other. -/
def rowsOf {α : Type} (r : α → List Value) (ms : List α) : List Value := ms.flatMap r
theorem rowsOf_length {α : Type} (r : α → List Value) (k : Nat) (hr : ∀ x, (r x).length = k) (ms : List α) : (rowsOf r ms).length = k * ms.length := by
  induction ms with
  | nil => rfl
  | cons x l ih => simp only [rowsOf, List.flatMap_cons, List.length_append, List.length_cons] at *; rw [ih, hr, Nat.mul_succ]; omega
theorem rowsOf_get {α : Type} (r : α → List Value) (k : Nat) (hr : ∀ x, (r x).length = k) (ms : List α) (i f : Nat) (M : α) (hi : ms[i]? = some M) (hf : f < k) : (rowsOf r ms)[k * i + f]? = (r M)[f]? := by
  induction ms generalizing i with
  | nil => simp at hi
  | cons x l ih =>
    simp only [rowsOf, List.flatMap_cons]
    cases i with
    | zero => simp at hi; subst hi; rw [List.getElem?_append_left (by rw [hr]; omega)]; simp
    | succ j =>
      have := ih j (by simpa using hi)
      rw [List.getElem?_append_right (by rw [hr, Nat.mul_succ]; omega), hr, ← this]
      rw [Nat.mul_succ, show k * j + k + f - k = k * j + f by omega]; rfl
theorem rowsOf_set {α : Type} (r : α → List Value) (k : Nat) (hr : ∀ x, (r x).length = k) (ms : List α) (i f : Nat) (M M' : α) (v : Value) (hi : ms[i]? = some M) (hf : f < k) (he : r M' = (r M).set f v) :
    (rowsOf r ms).set (k * i + f) v = rowsOf r (ms.set i M') := by
  induction ms generalizing i with
  | nil => simp at hi
  | cons x l ih =>
    simp only [rowsOf, List.flatMap_cons]
    cases i with
    | zero => simp at hi; subst hi; rw [List.set_append_left _ _ (by rw [hr]; omega)]; simp [he]
    | succ j =>
      have := ih j (by simpa using hi)
      rw [List.set_append_right _ _ (by rw [hr, Nat.mul_succ]; omega), hr]
      rw [Nat.mul_succ, show k * j + k + f - k = k * j + f by omega]
      simp only [rowsOf] at this
      simp [this]
theorem rowsOf_append {α : Type} (r : α → List Value) (xs ys : List α) : rowsOf r (xs ++ ys) = rowsOf r xs ++ rowsOf r ys := by simp [rowsOf]

theorem get_set {α : Type} {xs : List α} {i : Nat} {x : α} (hi : xs[i]? = some x) (y : α) : (xs.set i y)[i]? = some y := by
  have := (List.getElem?_eq_some_iff.1 hi).1
  simp [this]

theorem own_ne {W : World} {base : Nat} {e : TypeId} {s n k : Nat} {v : Value} {xs : List Value} {o : Obj} (h : W.ownsRow base e s v n xs) (ho : W.heap[k]? = some o) (hne : ∀ cur, o ≠ .cells cur e (0, 0)) : some k ≠ v.ownBlock := by
  obtain ⟨-, ⟨rfl, hz⟩ | ⟨g, cap, cur, rfl, hgb, hgg, hcap, hcm, hcs, htk⟩⟩ := h
  · simp [Value.ownBlock]
  · simp only [Value.ownBlock, ne_eq, Option.some.injEq]
    rintro rfl
    rw [hgg] at ho
    exact hne cur (Option.some.inj ho).symm
theorem own_keep {W W' : World} {base : Nat} {e : TypeId} {s n : Nat} {v : Value} {xs : List Value} (h : W.ownsRow base e s v n xs) (hb : ∀ (k : Nat) (cur : Array Value), W.heap[k]? = some (Obj.cells cur e (0, 0)) → W'.heap[k]? = W.heap[k]?) : W'.ownsRow base e s v n xs := by
  obtain ⟨h0, h1⟩ := h
  refine ⟨h0, ?_⟩
  rcases h1 with h1 | ⟨g, cap, cur, h1, h2, h3, h4⟩
  · exact .inl h1
  · exact .inr ⟨g, cap, cur, h1, h2, (hb g cur h3).trans h3, h4⟩
theorem own_form {W : World} {base : Nat} {e : TypeId} {s n : Nat} {v : Value} {xs : List Value} (h : W.ownsRow base e s v n xs) : ∃ a cap, v = .slice a n cap := by
  obtain ⟨-, ⟨rfl, hz⟩ | ⟨g, cap, cur, rfl, _⟩⟩ := h
  · exact ⟨none, 0, by rw [hz]⟩
  · exact ⟨_, _, rfl⟩
theorem own_open {W : World} {base : Nat} {e : TypeId} {s n : Nat} {v : Value} {xs : List Value} (h : W.ownsRow base e s v n xs) (hn : n ≠ 0) :
    ∃ g cap cur, v = .slice (some ⟨g, 0, none⟩) n cap ∧ base ≤ g ∧ W.heap[g]? = some (.cells cur e) ∧ n ≤ cap ∧ cap ≤ maxLen ∧ cur.size = cap * s ∧ ∀ (j : Nat) (u : Value), xs[j]? = some u → W.cell? ⟨g, j, none⟩ = some u := by
  obtain ⟨hl, ⟨rfl, hz⟩ | ⟨g, cap, cur, rfl, hgb, hgg, hcap, hcm, hcs, htk⟩⟩ := h
  · exact absurd hz hn
  · refine ⟨g, cap, cur, rfl, hgb, hgg, hcap, hcm, hcs, fun j u hj => ?_⟩
    have hj2 := (List.getElem?_eq_some_iff.1 hj).1
    rw [cell_of hgg, ← hj, ← htk, List.getElem?_take_of_lt (by omega)]
    simp

theorem own_base {W : World} {base base' : Nat} {e : TypeId} {s n : Nat} {v : Value} {xs : List Value} (h : W.ownsRow base' e s v n xs) (hb : base ≤ base') : W.ownsRow base e s v n xs := by
  obtain ⟨h0, h1 | ⟨g, cap, cur, h1, h2, h3⟩⟩ := h
  · exact ⟨h0, .inl h1⟩
  · exact ⟨h0, .inr ⟨g, cap, cur, h1, Nat.le_trans hb h2, h3⟩⟩
theorem own_addr {W : World} {base : Nat} {e : TypeId} {s n m cap : Nat} {a : Option Addr} {xs : List Value} (h : W.ownsRow base e s (.slice a m cap) n xs) : ∃ g, (a = none ∧ m = 0 ∧ cap = 0) ∨ a = some ⟨g, 0, none⟩ := by
  obtain ⟨-, ⟨e1, hz⟩ | ⟨g, cap', cur, e1, _⟩⟩ := h
  · simp only [Value.slice.injEq] at e1; obtain ⟨rfl, rfl, rfl⟩ := e1; exact ⟨0, .inl ⟨rfl, rfl, rfl⟩⟩
  · simp only [Value.slice.injEq] at e1; obtain ⟨rfl, rfl, rfl⟩ := e1; exact ⟨g, .inr rfl⟩
theorem below_grown {base : Nat} {w W W' : World} {e : TypeId} {s n : Nat} {v : Value} {xs : List Value} (hB : Below base w W) (h : W.ownsRow base e s v n xs) (g : W.grownBy W' v.ownBlock) (hb : base ≤ W.heap.size) : Below base w W' := by
  refine ⟨g.os.trans hB.os, g.tape.trans hB.tape, g.output.trans hB.output, ?_, ?_⟩
  · have := g.size; have := hB.size; omega
  · intro k hk
    have h1 : some k ≠ v.ownBlock := by
      intro e
      obtain ⟨-, ⟨rfl, _⟩ | ⟨g', cap, cur, rfl, hgb, _⟩⟩ := h
      · simp [Value.ownBlock] at e
      · simp [Value.ownBlock] at e; omega
    rw [g.block k (by omega) h1]
    exact hB.block k hk

/-- Entries: a name and its node. -/
abbrev Ents := List (ByteArray × Int)
def row (p : ByteArray × Int) : List Value := [.string p.1, .int .i64 p.2]
theorem row_length (p : ByteArray × Int) : (row p).length = 2 := rfl
theorem rows_len (es : Ents) : (rowsOf row es).length = es.length * 2 := by rw [rowsOf_length row 2 row_length, Nat.mul_comm]
theorem rows_one (es : Ents) : ∀ u ∈ rowsOf row es, u.oneCell' = true := by
  intro u hu
  simp only [rowsOf, List.mem_flatMap, row] at hu
  obtain ⟨a, _, ha⟩ := hu
  simp at ha
  rcases ha with rfl | rfl <;> rfl
theorem rows_cons (x : ByteArray × Int) (xs : Ents) : rowsOf row (x :: xs) = .string x.1 :: .int .i64 x.2 :: rowsOf row xs := rfl
theorem rows_take : ∀ (xs : Ents) (k : Nat), rowsOf row (xs.take k) = (rowsOf row xs).take (k * 2)
  | xs, 0 => by simp [rowsOf]
  | [], k + 1 => by simp [rowsOf]
  | x :: xs, k + 1 => by
    rw [List.take_succ_cons, rows_cons, rows_cons, rows_take xs k, show (k + 1) * 2 = k * 2 + 1 + 1 by omega, List.take_succ_cons, List.take_succ_cons]
theorem rows_drop : ∀ (xs : Ents) (k : Nat), rowsOf row (xs.drop k) = (rowsOf row xs).drop (k * 2)
  | xs, 0 => by simp
  | [], k + 1 => by simp [rowsOf]
  | x :: xs, k + 1 => by
    rw [List.drop_succ_cons, rows_cons, rows_drop xs k, show (k + 1) * 2 = k * 2 + 1 + 1 by omega, List.drop_succ_cons, List.drop_succ_cons]
theorem rows_at (es : Ents) (i : Nat) (k : ByteArray) (v : Int) (h : es[i]? = some (k, v)) : (rowsOf row es)[i * 2]? = some (.string k) ∧ (rowsOf row es)[i * 2 + 1]? = some (.int .i64 v) := by
  have e0 := rowsOf_get row 2 row_length es i 0 (k, v) h (by omega)
  have e1 := rowsOf_get row 2 row_length es i 1 (k, v) h (by omega)
  rw [show i * 2 = 2 * i + 0 by omega, show 2 * i + 0 + 1 = 2 * i + 1 by omega]
  exact ⟨e0, e1⟩

end Go.Proofs.Ytlngeaacjbdmhaa
