/-
  A table of mounts in its two blocks: its struct and the row of the mounts (four cells each); what a walk is told of them, what a store leaves.
-/
import Derived.Test.YtlngeaacjbdmhaaGreatQp01
import Derived.Test.YtlngeaacjbdmhaaGreatQp06
import Derived.Shelf.Abstract
import Derived.Shelf.RegionOpen
import Derived.OwnWalkIn
import Derived.TacticsInMore
import Derived.LoopNIn
import Derived.LoopIn
namespace Go.Proofs.YtlngeaacjbdmhaaGreat.Mt
open Go.RowKit
attribute [local go_sem ↓] Go.wp_at_zero Go.wp_at_succ
theorem putAll {w : World} (o : Obj) (h : Nat) (hh : h = w.heap.size) : (w.alloc o).heap[h]? = some o := by
  subst hh; exact heap_alloc_new w o
def rowsOf {α : Type} (r : α → List Value) (ms : List α) : List Value := ms.flatMap r
theorem rowsOf_length {α : Type} (r : α → List Value) (k : Nat) (hr : ∀ x, (r x).length = k) (ms : List α) : (rowsOf r ms).length = k * ms.length := by
  induction ms with
  | nil => rfl
  | cons x l ih => simp only [rowsOf, List.flatMap_cons, List.length_append, List.length_cons] at *; rw [ih, hr, Nat.mul_succ]; omega
theorem rowsOf_get {α : Type} (r : α → List Value) (k : Nat) (hr : ∀ x, (r x).length = k) (ms : List α) (i f : Nat) (M : α) (hi : ms[i]? = some M) (hf : f < k) : (rowsOf r ms)[k * i + f]? = (r M)[f]? := by
  induction ms generalizing i with
  | nil => simp at hi
  | cons x l ih =>
    simp only [rowsOf, List.flatMap_cons]
    cases i with
    | zero => simp at hi; subst hi; rw [List.getElem?_append_left (by rw [hr]; omega)]; simp
    | succ j =>
      have := ih j (by simpa using hi)
      rw [List.getElem?_append_right (by rw [hr, Nat.mul_succ]; omega), hr, ← this]
      rw [Nat.mul_succ, show k * j + k + f - k = k * j + f by omega]; rfl
theorem rowsOf_append {α : Type} (r : α → List Value) (xs ys : List α) : rowsOf r (xs ++ ys) = rowsOf r xs ++ rowsOf r ys := by simp [rowsOf]
theorem own_ne {W : World} {base : Nat} {e : TypeId} {s n k : Nat} {v : Value} {xs : List Value} {o : Obj} (h : W.ownsRow base e s v n xs) (ho : W.heap[k]? = some o) (hne : ∀ cur, o ≠ .cells cur e (0, 0)) : some k ≠ v.ownBlock := by
  obtain ⟨-, ⟨rfl, hz⟩ | ⟨g, cap, cur, rfl, hgb, hgg, hcap, hcm, hcs, htk⟩⟩ := h
  · simp [Value.ownBlock]
  · simp only [Value.ownBlock, ne_eq, Option.some.injEq]
    rintro rfl
    rw [hgg] at ho
    exact hne cur (Option.some.inj ho).symm
theorem own_keep {W W' : World} {base : Nat} {e : TypeId} {s n : Nat} {v : Value} {xs : List Value} (h : W.ownsRow base e s v n xs) (hb : ∀ (k : Nat) (cur : Array Value), W.heap[k]? = some (Obj.cells cur e (0, 0)) → W'.heap[k]? = W.heap[k]?) : W'.ownsRow base e s v n xs := by
  obtain ⟨h0, h1⟩ := h
  refine ⟨h0, ?_⟩
  rcases h1 with h1 | ⟨g, cap, cur, h1, h2, h3, h4⟩
  · exact .inl h1
  · exact .inr ⟨g, cap, cur, h1, h2, (hb g cur h3).trans h3, h4⟩
theorem own_form {W : World} {base : Nat} {e : TypeId} {s n : Nat} {v : Value} {xs : List Value} (h : W.ownsRow base e s v n xs) : ∃ a cap, v = .slice a n cap := by
  obtain ⟨-, ⟨rfl, hz⟩ | ⟨g, cap, cur, rfl, _⟩⟩ := h
  · exact ⟨none, 0, by rw [hz]⟩
  · exact ⟨_, _, rfl⟩
theorem own_open {W : World} {base : Nat} {e : TypeId} {s n : Nat} {v : Value} {xs : List Value} (h : W.ownsRow base e s v n xs) (hn : n ≠ 0) :
    ∃ g cap cur, v = .slice (some ⟨g, 0, none⟩) n cap ∧ base ≤ g ∧ W.heap[g]? = some (.cells cur e) ∧ n ≤ cap ∧ cap ≤ maxLen ∧ cur.size = cap * s ∧ ∀ (j : Nat) (u : Value), xs[j]? = some u → W.cell? ⟨g, j, none⟩ = some u := by
  obtain ⟨hl, ⟨rfl, hz⟩ | ⟨g, cap, cur, rfl, hgb, hgg, hcap, hcm, hcs, htk⟩⟩ := h
  · exact absurd hz hn
  · refine ⟨g, cap, cur, rfl, hgb, hgg, hcap, hcm, hcs, fun j u hj => ?_⟩
    have hj2 := (List.getElem?_eq_some_iff.1 hj).1
    rw [cell_of hgg, ← hj, ← htk, List.getElem?_take_of_lt (by omega)]
    simp
theorem own_base {W : World} {base base' : Nat} {e : TypeId} {s n : Nat} {v : Value} {xs : List Value} (h : W.ownsRow base' e s v n xs) (hb : base ≤ base') : W.ownsRow base e s v n xs := by
  obtain ⟨h0, h1 | ⟨g, cap, cur, h1, h2, h3⟩⟩ := h
  · exact ⟨h0, .inl h1⟩
  · exact ⟨h0, .inr ⟨g, cap, cur, h1, Nat.le_trans hb h2, h3⟩⟩
theorem own_addr {W : World} {base : Nat} {e : TypeId} {s n m cap : Nat} {a : Option Addr} {xs : List Value} (h : W.ownsRow base e s (.slice a m cap) n xs) : ∃ g, (a = none ∧ m = 0 ∧ cap = 0) ∨ a = some ⟨g, 0, none⟩ := by
  obtain ⟨-, ⟨e1, hz⟩ | ⟨g, cap', cur, e1, _⟩⟩ := h
  · simp only [Value.slice.injEq] at e1; obtain ⟨rfl, rfl, rfl⟩ := e1; exact ⟨0, .inl ⟨rfl, rfl, rfl⟩⟩
  · simp only [Value.slice.injEq] at e1; obtain ⟨rfl, rfl, rfl⟩ := e1; exact ⟨g, .inr rfl⟩
theorem below_grown {base : Nat} {w W W' : World} {e : TypeId} {s n : Nat} {v : Value} {xs : List Value} (hB : Below base w W) (h : W.ownsRow base e s v n xs) (g : W.grownBy W' v.ownBlock) (hb : base ≤ W.heap.size) : Below base w W' := by
  refine ⟨g.os.trans hB.os, g.tape.trans hB.tape, g.output.trans hB.output, ?_, ?_⟩
  · have := g.size; have := hB.size; omega
  · intro k hk
    have h1 : some k ≠ v.ownBlock := by
      intro e
      obtain ⟨-, ⟨rfl, _⟩ | ⟨g', cap, cur, rfl, hgb, _⟩⟩ := h
      · simp [Value.ownBlock] at e
      · simp [Value.ownBlock] at e; omega
    rw [g.block k (by omega) h1]
    exact hB.block k hk
structure Ld where
  n : Int
  top : Int
  am : Int
  an : Int
abbrev Ents := List Ld
def row (p : Ld) : List Value := [I p.n, I p.top, I p.am, I p.an]
def pv (m n : Int) : Value := .agg #[I m, I n]
def lv (p : Ld) : Value := .agg #[I p.n, I p.top, I p.am, I p.an]
theorem row_length (p : Ld) : (row p).length = 4 := rfl
theorem rows_len (es : Ents) : (rowsOf row es).length = es.length * 4 := by rw [rowsOf_length row 4 row_length, Nat.mul_comm]
theorem rows_one (es : Ents) : ∀ u ∈ rowsOf row es, u.oneCell' = true := by
  intro u hu
  simp only [rowsOf, List.mem_flatMap, row] at hu
  obtain ⟨a, _, ha⟩ := hu
  simp at ha
  rcases ha with rfl | rfl | rfl | rfl <;> rfl
theorem rows_cons (x : Ld) (xs : Ents) : rowsOf row (x :: xs) = I x.n :: I x.top :: I x.am :: I x.an :: rowsOf row xs := rfl
theorem rows_take : ∀ (xs : Ents) (k : Nat), rowsOf row (xs.take k) = (rowsOf row xs).take (k * 4)
  | xs, 0 => by simp [rowsOf]
  | [], k + 1 => by simp [rowsOf]
  | x :: xs, k + 1 => by
    rw [List.take_succ_cons, rows_cons, rows_cons, rows_take xs k, show (k + 1) * 4 = k * 4 + 1 + 1 + 1 + 1 by omega, List.take_succ_cons, List.take_succ_cons, List.take_succ_cons, List.take_succ_cons]
theorem rows_drop : ∀ (xs : Ents) (k : Nat), rowsOf row (xs.drop k) = (rowsOf row xs).drop (k * 4)
  | xs, 0 => by simp
  | [], k + 1 => by simp [rowsOf]
  | x :: xs, k + 1 => by
    rw [List.drop_succ_cons, rows_cons, rows_drop xs k, show (k + 1) * 4 = k * 4 + 1 + 1 + 1 + 1 by omega, List.drop_succ_cons, List.drop_succ_cons, List.drop_succ_cons, List.drop_succ_cons]
theorem rows_at (es : Ents) (i : Nat) (p : Ld) (h : es[i]? = some p) : (rowsOf row es)[i * 4]? = some (I p.n) ∧ (rowsOf row es)[i * 4 + 1]? = some (I p.top) ∧ (rowsOf row es)[i * 4 + 2]? = some (I p.am) ∧ (rowsOf row es)[i * 4 + 3]? = some (I p.an) := by
  have e0 := rowsOf_get row 4 row_length es i 0 p h (by omega)
  have e1 := rowsOf_get row 4 row_length es i 1 p h (by omega)
  have e2 := rowsOf_get row 4 row_length es i 2 p h (by omega)
  have e3 := rowsOf_get row 4 row_length es i 3 p h (by omega)
  rw [show i * 4 = 4 * i + 0 by omega, show 4 * i + 0 + 1 = 4 * i + 1 by omega, show 4 * i + 0 + 2 = 4 * i + 2 by omega, show 4 * i + 0 + 3 = 4 * i + 3 by omega]
  exact ⟨e0, e1, e2, e3⟩
structure Fm (base b : Nat) (w w' : World) : Prop where
  os : w'.os = w.os
  tape : w'.tape = w.tape
  output : w'.output = w.output
  size : w.heap.size ≤ w'.heap.size
  low : ∀ k, k < base → w'.heap[k]? = w.heap[k]?
  blk : ∀ (k : Nat) (o : Obj), w.heap[k]? = some o → k ≠ b → (∀ cur, o ≠ .cells cur 182 (0, 0)) → w'.heap[k]? = some o
theorem Fm.refl (base b : Nat) (w : World) : Fm base b w w := ⟨rfl, rfl, rfl, Nat.le_refl _, fun _ _ => rfl, fun _ _ h _ _ => h⟩
theorem Fm.trans {base b : Nat} {u v w : World} (h : Fm base b u v) (g : Fm base b v w) : Fm base b u w :=
  ⟨g.os.trans h.os, g.tape.trans h.tape, g.output.trans h.output, Nat.le_trans h.size g.size, fun k hk => (g.low k hk).trans (h.low k hk), fun k o h1 h2 h3 => g.blk k o (h.blk k o h1 h2 h3) h2 h3⟩
theorem Fm.of_below {base b : Nat} {w w' : World} (h : Below w.heap.size w w') (hb : base ≤ w.heap.size) : Fm base b w w' :=
  ⟨h.os, h.tape, h.output, h.size, fun k hk => h.block k (by omega), fun k _ hk _ _ => (h.block k (lt_of_heap hk)).trans hk⟩
theorem Fm.alloc {base b : Nat} {u w : World} (h : Fm base b u w) (hb : base ≤ w.heap.size) (o : Obj) : Fm base b u (w.alloc o) :=
  h.trans (.of_below ((Below.refl _ w).alloc (Nat.le_refl _) o) hb)
theorem Fm.drew {base b : Nat} {u w : World} (h : Fm base b u w) : Fm base b u w.drew := ⟨h.os, h.tape, h.output, h.size, h.low, h.blk⟩
theorem Fm.dn {base b : Nat} {u w : World} (h : Fm base b u w) (m : Nat) : Fm base b u (w.drewN m) := ⟨h.os, h.tape, h.output, h.size, h.low, h.blk⟩
theorem Fm.set {base b : Nat} {u w : World} (h : Fm base b u w) {p : Addr} (hp : p.block = b) (hb : base ≤ b) (v : Value) : Fm base b u (w.setCell p v) :=
  h.trans ⟨rfl, rfl, rfl, by simp [World.setCell], fun k hk => Below.heap_setCell _ _ _ _ (by omega), fun k o h1 h2 _ => (Below.heap_setCell _ _ _ _ (by omega)).trans h1⟩
theorem Fm.below {base b : Nat} {w w' : World} (h : Fm base b w w') : Below base w w' := ⟨h.os, h.tape, h.output, h.size, h.low⟩
structure Ls (base : Nat) (W : World) (b : Nat) (rt md : Int) (es : Ents) : Prop where
  hb : ∃ a cap, W.heap[b]? = some (.cells #[I rt, I md, .slice a es.length cap] 221) ∧ W.ownsRow base 182 4 (.slice a es.length cap) es.length (rowsOf row es)
  kb : base ≤ b
section
variable {base : Nat} {W W' : World} {b : Nat} {rt md : Int} {es es' : Ents}
theorem Ls.lt (h : Ls base W b rt md es) : b < W.heap.size := by
  obtain ⟨a, cap, h1, _⟩ := h.hb
  exact lt_of_heap h1
theorem Ls.keep (h : Ls base W b rt md es) (hk : ∀ (k : Nat) (cur : Array Value) (t : TypeId), W.heap[k]? = some (.cells cur t (0, 0)) → (k = b ∨ t = 182) → W'.heap[k]? = W.heap[k]?) : Ls base W' b rt md es := by
  obtain ⟨a, cap, h1, h2⟩ := h.hb
  exact ⟨⟨a, cap, (hk b _ _ h1 (.inl rfl)).trans h1, own_keep h2 fun k cur hc => hk k cur 182 hc (.inr rfl)⟩, h.kb⟩
theorem Ls.below (h : Ls base W b rt md es) (g : Below W.heap.size W W') : Ls base W' b rt md es := h.keep fun k _ _ hk _ => g.block k (lt_of_heap hk)
theorem Ls.drew (h : Ls base W b rt md es) : Ls base W.drew b rt md es := h.keep fun _ _ _ _ _ => rfl
theorem Ls.dn (h : Ls base W b rt md es) (m : Nat) : Ls base (W.drewN m) b rt md es := h.keep fun _ _ _ _ _ => rfl
theorem Ls.cells (h : Ls base W b rt md es) : ∃ a cap, W.cell? ⟨b, 0, none⟩ = some (I rt) ∧ W.cell? ⟨b, 1, none⟩ = some (I md) ∧ W.cell? ⟨b, 2, none⟩ = some (.slice a es.length cap) ∧ (∀ i, W.frozen? ⟨b, i, none⟩ = false) ∧ W.ownsRow base 182 4 (.slice a es.length cap) es.length (rowsOf row es) := by
  obtain ⟨a, cap, h1, h2⟩ := h.hb
  refine ⟨a, cap, ?_, ?_, ?_, frozen_of h1, h2⟩ <;> rw [cell_of h1] <;> rfl
theorem own_at {a : Option Addr} {cap n : Nat} {e : TypeId} (own : W.ownsRow base e 4 (.slice a n cap) n (rowsOf row es)) {i : Nat} {p : Ld} (hi : es[i]? = some p) (hn : es.length = n) :
    ∃ g, a = some ⟨g, 0, none⟩ ∧ W.cell? ⟨g, i * 4, none⟩ = some (I p.n) ∧ W.cell? ⟨g, i * 4 + 1, none⟩ = some (I p.top) ∧ W.cell? ⟨g, i * 4 + 2, none⟩ = some (I p.am) ∧ W.cell? ⟨g, i * 4 + 3, none⟩ = some (I p.an) ∧ (∀ j, W.frozen? ⟨g, j, none⟩ = false) ∧ g < W.heap.size := by
  have h1 := (List.getElem?_eq_some_iff.1 hi).1
  obtain ⟨g, cap', cur, e1, _, hg, _, _, _, hx⟩ := own_open own (by omega)
  simp only [Value.slice.injEq] at e1
  obtain ⟨p0, p1, p2, p3⟩ := rows_at es i p hi
  exact ⟨g, e1.1, hx _ _ p0, hx _ _ p1, hx _ _ p2, hx _ _ p3, frozen_of hg, lt_of_heap hg⟩
end
set_option maxHeartbeats 400000 in
theorem new_any (r : Int) (w : World) :
    Calls Tryz.prog 96 #[I r] w fun e w' => e = .returned (.pointer (some ⟨w.heap.size, 0, none⟩)) ∧
      Ls w.heap.size w' w.heap.size r 0 [] ∧ Below w.heap.size w w' := by
  go_enter Tryz.func96, Tryz.ntmps96
  go_wp2_with fail
  go_ret
  exact ⟨rfl, ⟨⟨none, 0, putAll _ _ rfl, World.ownsRow_nil _ _ _ _⟩, Nat.le_refl _⟩, (Below.refl _ w).alloc (Nat.le_refl _) _⟩
theorem rising_any (b : Nat) (w : World) :
    Calls Tryz.prog 170 #[.pointer (some ⟨b, 0, none⟩)] w fun e w' =>
      e = .returned (.func (.func 252) #[] #[.pointer (some ⟨w.heap.size, 0, none⟩)]) ∧ w' = w.alloc (.cells #[.pointer (some ⟨b, 0, none⟩)] 43) := by
  go_enter Tryz.func170, Tryz.ntmps170
  go_wp2
  go_ret
  exact ⟨rfl, rfl⟩
theorem cell_alloc {w : World} {x i : Nat} {v : Value} (h : w.cell? ⟨x, i, none⟩ = some v) (o : Obj) : (w.alloc o).cell? ⟨x, i, none⟩ = some v := by
  have hx : x < w.heap.size := by
    rcases Nat.lt_or_ge x w.heap.size with h1 | h1
    · exact h1
    · simp [World.cell?, Array.getElem?_eq_none h1] at h
  rw [← h]
  exact World.cell?_of_block (Below.heap_alloc _ _ _ hx)
theorem below_alloc (w : World) (o : Obj) : Below w.heap.size w (w.alloc o) := (Below.refl _ w).alloc (Nat.le_refl _) o
theorem num1_any (p : Ld) (x : Nat) (m : Int) (w : World) (h : w.cell? ⟨x, 0, none⟩ = some (I m)) :
    Calls Tryz.prog 226 #[lv p, .pointer (some ⟨x, 0, none⟩)] w fun e w' => e = .returned (.bool (decide (p.n = m))) ∧ Below w.heap.size w w' := by
  have h1 := cell_alloc h (.cells #[I p.n, I p.top, I p.am, I p.an] 182)
  unfold lv
  go_enter Tryz.func226, Tryz.ntmps226
  go_wp2_with fail
  go_ret
  exact ⟨rfl, below_alloc _ _⟩
theorem lie1_any (p : Ld) (x : Nat) (m n : Int) (w : World) (h0 : w.cell? ⟨x, 0, none⟩ = some (I m)) (h1 : w.cell? ⟨x, 1, none⟩ = some (I n)) :
    Calls Tryz.prog 164 #[lv p, .pointer (some ⟨x, 0, none⟩)] w fun e w' => e = .returned (.bool (decide (p.am = m ∧ p.an = n))) ∧ Below w.heap.size w w' := by
  have h2 := cell_alloc h0 (.cells #[I p.n, I p.top, I p.am, I p.an] 182)
  have h3 := cell_alloc h1 (.cells #[I p.n, I p.top, I p.am, I p.an] 182)
  unfold lv
  go_enter Tryz.func164, Tryz.ntmps164
  go_wp2_with fail
  · rename_i e1 e2
    go_ret
    exact ⟨by rw [decide_eq_true (p := p.am = m ∧ p.an = n) ⟨e1, e2⟩]; rfl, below_alloc _ _⟩
  · rename_i e1 e2
    go_ret
    exact ⟨by rw [decide_eq_false (p := p.am = m ∧ p.an = n) (fun h => e2 h.2)]; rfl, below_alloc _ _⟩
  · rename_i e1
    go_ret
    exact ⟨by rw [decide_eq_false (p := p.am = m ∧ p.an = n) (fun h => e1 h.1)]; rfl, below_alloc _ _⟩
end Go.Proofs.YtlngeaacjbdmhaaGreat.Mt

namespace Go.Proofs.YtlngeaacjbdmhaaGreat.Mt
open Go.RowKit Go.Shelf
attribute [local go_sem] Oper.semAt_some
set_option maxRecDepth 100000 in
set_option maxHeartbeats 1000000 in
theorem iter_some (l x b g m cap : Nat) (es : Ents) (W : World) (J : Nat → World → Prop) (S : World → Prop) (hl : es.length = m) (hm : m ≤ 1000) (hJ0 : J 0 W)
    (hJA : ∀ i W', J i W' → W'.cell? ⟨x, 0, none⟩ = some (.pointer (some ⟨b, 0, none⟩)) ∧ W'.cell? ⟨b, 2, none⟩ = some (.slice (some ⟨g, 0, none⟩) m cap) ∧ ∀ (k : Nat) (p : Ld), es[k]? = some p → W'.cell? ⟨g, k * 4, none⟩ = some (I p.n) ∧ W'.cell? ⟨g, k * 4 + 1, none⟩ = some (I p.top) ∧ W'.cell? ⟨g, k * 4 + 2, none⟩ = some (I p.am) ∧ W'.cell? ⟨g, k * 4 + 3, none⟩ = some (I p.an))
    (hY : ∀ (i : Nat) W' p, J i W' → es[i]? = some p → YieldAt Fence.wide (4 - 1) Tryz.prog l #[lv p] W' fun e W2 => (e = .returned (.bool true) ∧ J (i + 1) W2) ∨ (e = .returned (.bool false) ∧ S W2)) (hJL : ∀ i W' o, J i W' → J i (W'.alloc o)) :
    CallsIn Fence.wide 4 Tryz.prog 252 #[.func (.yield l) #[] #[], .pointer (some ⟨x, 0, none⟩)] W fun e W' => e = .returned (.tuple #[]) ∧ (J m W' ∨ S W') := by
  have hro : Fence.wide.round = none := rfl
  have HY := hide hY
  have HA := hide hJA
  have HL := hide hl
  have HLL := hide hJL
  obtain ⟨x0, b1, -⟩ := hJA 0 W hJ0
  clear hY hJA hl hJL
  refine callsIn_of_wp Tryz.func252 rfl trivial ?_ hro
  simp only [Tryz.ntmps252, List.size_toArray, List.length_cons, List.length_nil, Nat.reduceAdd, Nat.reduceSub, Array.replicate_succ, Array.replicate_zero, List.push_toArray, List.append_toArray, List.nil_append, List.cons_append]
  gi_wp2_with fail
  clear x0 b1
  gi_loopw [10] (fun i wr => ∃ k : Nat, k ≤ m ∧ i = .int .i64 k ∧ J k wr) (fun i _ => m - (intOf i).toNat)
  case atStart => exact ⟨0, Nat.zero_le _, rfl, hJ0⟩
  case round =>
    obtain ⟨k, hk, rfl, hJ⟩ := hrel
    by_cases hkn : k < m
    · obtain ⟨p, he⟩ : ∃ e, es[k]? = some e := ⟨_, List.getElem?_eq_getElem (by have := unhide HL; omega)⟩
      obtain ⟨x1, b1, hcs⟩ := unhide HA k wr hJ
      obtain ⟨y0, y1, y2, y3⟩ := hcs k p he
      have j1 : (k : Int) < (m : Int) := by omega
      have j0 : (0 : Int) ≤ (k : Int) := by omega
      obtain ⟨fn, tmps, assign, body, hyy, hR⟩ := unhide HY k (wr.alloc (.cells #[I p.n, I p.top, I p.am, I p.an] 182)) p (unhide HLL k wr _ hJ) he
      unfold lv at hyy
      clear hJ hcs he
      gi_wp2_with fail
      refine hR.mono ?_
      rintro e W2 (⟨rfl, hJ2⟩ | ⟨rfl, hS⟩)
      · gi_wp2_with fail
        go_roundw
        case rel => exact ⟨k + 1, by omega, by go_num, hJ2⟩
        case measure => simp [intOf]; omega
      · gi_wp2_with fail
        refine bodyPost_ret (results_none rfl _ _ _) rfl ?_
        exact ⟨rfl, .inr hS⟩
    · obtain rfl : k = m := by omega
      gi_wp2_with fail
      go_end0
      exact ⟨rfl, .inl hJ⟩
set_option maxRecDepth 100000 in
set_option maxHeartbeats 1000000 in
theorem iter_none (l x b : Nat) (W : World) (x0 : W.cell? ⟨x, 0, none⟩ = some (.pointer (some ⟨b, 0, none⟩))) (b1 : W.cell? ⟨b, 2, none⟩ = some (.slice none 0 0)) :
    CallsIn Fence.wide 4 Tryz.prog 252 #[.func (.yield l) #[] #[], .pointer (some ⟨x, 0, none⟩)] W fun e W' => e = .returned (.tuple #[]) ∧ W' = W := by
  have hro : Fence.wide.round = none := rfl
  refine callsIn_of_wp Tryz.func252 rfl trivial ?_ hro
  simp only [Tryz.ntmps252, List.size_toArray, List.length_cons, List.length_nil, Nat.reduceAdd, Nat.reduceSub, Array.replicate_succ, Array.replicate_zero, List.push_toArray, List.append_toArray, List.nil_append, List.cons_append]
  gi_wp2_with fail
  clear x0 b1
  gi_loopw [10] (fun i wr => i = .int .i64 0 ∧ wr = W) (fun _ _ => 0)
  case atStart => exact ⟨rfl, rfl⟩
  case round =>
    obtain ⟨rfl, rfl⟩ := hrel
    gi_wp2_with fail
    go_end0
    exact ⟨rfl, rfl⟩
theorem iter_go {base b : Nat} {V : World} {rt md : Int} {es : Ents} (l x : Nat) (W : World) (J : Nat → World → Prop) (S : World → Prop) (hr : Ls base V b rt md es) (hm : es.length ≤ 1000) (hJ0 : J 0 W)
    (hJA : ∀ i W', J i W' → Below V.heap.size V W' ∧ W'.cell? ⟨x, 0, none⟩ = some (.pointer (some ⟨b, 0, none⟩)))
    (hY : ∀ (i : Nat) W' p, J i W' → es[i]? = some p → YieldAt Fence.wide (4 - 1) Tryz.prog l #[lv p] W' fun e W2 => (e = .returned (.bool true) ∧ J (i + 1) W2) ∨ (e = .returned (.bool false) ∧ S W2)) (hJL : ∀ i W' o, J i W' → J i (W'.alloc o)) :
    CallsIn Fence.wide 4 Tryz.prog 252 #[.func (.yield l) #[] #[], .pointer (some ⟨x, 0, none⟩)] W fun e W' => e = .returned (.tuple #[]) ∧ (J es.length W' ∨ S W') := by
  obtain ⟨a, cap, _, _, b2, _, own⟩ := hr.cells
  have hbl := hr.lt
  obtain ⟨g, ⟨rfl, h0, rfl⟩ | rfl⟩ := own_addr own
  · obtain ⟨hB, x0⟩ := hJA 0 W hJ0
    have b1 := (World.cell?_of_block (a := ⟨b, 2, none⟩) (hB.block b hbl)).trans b2
    rw [h0] at b1
    refine (iter_none l x b W x0 b1).mono ?_
    rintro e W' ⟨rfl, rfl⟩
    exact ⟨rfl, .inl (by rw [h0]; exact hJ0)⟩
  · refine iter_some l x b g es.length cap es W J S rfl hm hJ0 (fun i W' hJ => ?_) hY hJL
    obtain ⟨hB, x0⟩ := hJA i W' hJ
    refine ⟨x0, (World.cell?_of_block (a := ⟨b, 2, none⟩) (hB.block b hbl)).trans b2, fun k p he => ?_⟩
    obtain ⟨g', eg, c0, c1, c2, c3, _, hgl⟩ := own_at own he rfl
    simp only [Option.some.injEq, Addr.mk.injEq, and_true] at eg
    subst eg
    have hg := hB.block g hgl
    exact ⟨(World.cell?_of_block hg).trans c0, (World.cell?_of_block hg).trans c1, (World.cell?_of_block hg).trans c2, (World.cell?_of_block hg).trans c3⟩
end Go.Proofs.YtlngeaacjbdmhaaGreat.Mt

namespace Go.Proofs.YtlngeaacjbdmhaaGreat.Mt
open Go.RowKit Go.Shelf
section
variable {n l : Nat} {P : Program} {ops : Array Oper} {Q : Exit → Act → World → Prop} {md : Region.Mode}
def noDefer (o : Oper) : Bool := match o.op with | .defer _ => false | _ => true
theorem noDefer_spec {o : Oper} (h : noDefer o = true) : ∀ c, o.op ≠ .defer c := by
  intro c hc
  simp [noDefer, hc] at h
theorem uponIn_round {o : Oper} {a : Act} {K : Act → World → Prop} {r : Result Next} (h : o.uponIn Fence.wide n P a K Q r) : o.uponIn (Fence.wide.inRound l) n P a K Q r := by
  cases r with
  | ok x w' => cases x <;> exact h
  | halt x w' => cases x <;> exact h
theorem wpOpIn_round {i : Nat} {K : Act → World → Prop} {a : Act} {w : World} (hd : ops.all noDefer = true) (h : wpOpIn Fence.wide n P ops Q i K a w) : wpOpIn (Fence.wide.inRound l) n P ops Q i K a w := by
  unfold wpOpIn at *
  cases ho : ops[i]? with
  | none => simpa [ho] using h
  | some o =>
    simp only [ho] at h ⊢
    have hn : ∀ c, o.op ≠ .defer c := noDefer_spec (by
      obtain ⟨hl, he⟩ := Array.getElem?_eq_some_iff.1 ho
      rw [Array.all_eq_true] at hd
      rw [← he]; exact hd i hl)
    split
    · rename_i hw
      simp only [hw, if_true] at h
      refine ⟨fun _ _ => trivial, ?_⟩
      have h2 := h.2
      rw [show (Fence.wide.inRound l).round = some l from rfl, Oper.semAt_some _ _ _ hn]
      rw [show Fence.wide.round = none from rfl, Oper.semAt_none] at h2
      exact uponIn_round h2
    · rename_i hw
      simp only [hw] at h
      exact h
theorem wpAnyIn_round (hd : ops.all noDefer = true) : ∀ (fuel : Nat) (listed : Array Bool) (a : Act) (w : World), wpAnyIn Fence.wide n P md ops Q fuel listed a w → wpAnyIn (Fence.wide.inRound l) n P md ops Q fuel listed a w
  | 0, _, _, _, h => h
  | fuel + 1, _, _, _, h => ⟨h.1, fun i hi => wpOpIn_mono (fun a w hh => wpAnyIn_round hd fuel _ a w hh) (wpOpIn_round hd (h.2 i hi))⟩
theorem wpIn_region_round {id : Nat} {a : Act} {w : World} (hm : P.follows .mixedOrders = true) (hd : ops.all noDefer = true)
    (h : wpAnyIn Fence.wide n P .any ops Q ops.size (Array.replicate ops.size false) a w.drew) : (Code.region id ops true).wpIn (Fence.wide.inRound l) n P Q a w :=
  wpIn_region_any hm (wpAnyIn_round hd _ _ _ _ h)
theorem stepIn_append_eq {w : World} {o : Oper} {a : Act} {K : Act → World → Prop} {E : Prop} (hgd : o.guard = none) (s x : Operand) (t : TypeId)
    (ho : o.op = .call { callee := .builtin .append, args := #[s, x], argTypes := #[t, t] }) (ty : TypeId) (hty : o.type = ty) (vs vx : Value) (hs : a.eval s = vs) (hx : a.eval x = vx) (v' : Value) (w' : World)
    (hrun : (Builtin.append_ #[t, t] ty #[vs, vx]).run P w = .ok v' w') (h : K (a.put o.dst v') w') :
    if Region.wanted o (yielded ops a.tmps) = true then Oper.wpIn Fence.wide n P o a w K Q else E := by
  have hw : Region.wanted o (yielded ops a.tmps) = true := by simp [Region.wanted, hgd]
  rw [if_pos hw]
  refine ⟨fun _ _ => trivial, ?_⟩
  rw [show Fence.wide.round = none from rfl, Oper.semAt_none]
  unfold execOp
  simp only [ho, resolve, invoke, builtin, Sem.run_bind, Sem.run_pure, Result.andThen_ok, List.map_toArray, List.map_cons, List.map_nil, hs, hx, hty, hrun]
  exact h
end
theorem grown_keep {W W5 : World} {base : Nat} {e : TypeId} {s n k : Nat} {v : Value} {xs : List Value} {o o' : Obj} (own : W.ownsRow base e s v n xs) (hg : (W.alloc o').grownBy W5 v.ownBlock) (h : W.heap[k]? = some o) (hne : ∀ cur, o ≠ .cells cur e (0, 0)) : W5.heap[k]? = some o := by
  have h3 := hg.block k (by simp; exact Nat.lt_succ_of_lt (lt_of_heap h)) (own_ne own h hne)
  rw [Below.heap_alloc _ _ _ (lt_of_heap h)] at h3
  exact h3.trans h
structure Fl (w W : World) (r : Loop) (h L D x b : Nat) : Prop where
  l : W.heap[L]? = some (.loop r)
  dd : W.heap[D]? = some (.deferred (some []))
  xx : W.heap[x]? = some (.cells #[.pointer (some ⟨b, 0, none⟩)] 43)
  be : Below h w W
theorem Fl.of {w W W' : World} {r r' : Loop} {h L D x b : Nat} (J : Fl w W r h L D x b) (hl : W'.heap[L]? = some (.loop r')) (hb : Below h w W') (hk : ∀ k, k < W.heap.size → k ≠ L → W'.heap[k]? = W.heap[k]?) : Fl w W' r' h L D x b := by
  have kp : ∀ {k : Nat} {o : Obj}, W.heap[k]? = some o → o ≠ .loop r → W'.heap[k]? = some o := fun h1 h2 => (hk _ (lt_of_heap h1) (by rintro rfl; rw [J.l] at h1; exact h2 (Option.some.inj h1).symm)).trans h1
  exact ⟨hl, kp J.dd (by simp), kp J.xx (by simp), hb⟩
theorem put_other {W : World} {r r' : Loop} {L k : Nat} {o : Obj} (hl : W.heap[L]? = some (.loop r)) (h : W.heap[k]? = some o) (hne : ∀ r, o ≠ .loop r) : (W.putObj L (.loop r')).heap[k]? = some o :=
  (World.putObj_heap_other (by rintro rfl; rw [hl] at h; exact hne _ (Option.some.inj h).symm)).trans h
theorem Fl.put {w W : World} {r : Loop} {h L D x b : Nat} (J : Fl w W r h L D x b) (r' : Loop) (hL : h ≤ L) : Fl w (W.putObj L (.loop r')) r' h L D x b :=
  J.of (World.putObj_heap_same (lt_of_heap J.l)) ⟨J.be.os, J.be.tape, J.be.output, by rw [World.putObj_size]; exact J.be.size, fun k hk => (World.putObj_heap_other (by omega)).trans (J.be.block k hk)⟩ (fun _ _ hk => World.putObj_heap_other hk)
theorem own_put {W : World} {r r' : Loop} {L base : Nat} {e : TypeId} {s n : Nat} {v : Value} {xs : List Value} (h : W.ownsRow base e s v n xs) (hl : W.heap[L]? = some (.loop r)) : (W.putObj L (.loop r')).ownsRow base e s v n xs :=
  own_keep h fun k cur hc => (put_other hl hc (by simp)).trans hc.symm
theorem box_more {w W : World} {r : Loop} {h L D x b H : Nat} {v : Value} {xs : List Value} {o' : Obj} {t : TypeId} {e : TypeId} {s : Nat} {n : Nat} {news : List Value} {v' : Value} {W5 : World} (J : Fl w W r h L D x b) (k1 : W.heap[H]? = some (.cells #[v] t)) (own : W.ownsRow h e s v n xs)
    (hg : (W.alloc o').grownBy W5 v.ownBlock) (own' : W5.ownsRow h e s v' (n + 1) (xs ++ news)) (hH : h ≤ H) (ht : t ≠ e) (hx : (43 : TypeId) ≠ e) (ht2 : t ≠ 43) :
    Fl w (W5.setCell ⟨H, 0, none⟩ v') r h L D x b ∧ W5.heap[H]? = some (.cells #[v] t) ∧ (W5.setCell ⟨H, 0, none⟩ v').heap[H]? = some (.cells #[v'] t) ∧ (W5.setCell ⟨H, 0, none⟩ v').ownsRow h e s v' (n + 1) (xs ++ news) := by
  have hs := J.be.size
  have H5 := grown_keep own hg k1 (by intro cur hc; simp at hc; exact ht hc.2)
  have kp : ∀ {k : Nat} {o : Obj}, W.heap[k]? = some o → (∀ cur, o ≠ .cells cur e (0, 0)) → k ≠ H → (W5.setCell ⟨H, 0, none⟩ v').heap[k]? = some o :=
    fun h1 h2 h3 => (Below.heap_setCell _ _ _ _ h3).trans (grown_keep own hg h1 h2)
  have ne : ∀ {k : Nat} {o : Obj}, W.heap[k]? = some o → (∀ cur, o ≠ .cells cur t (0, 0)) → k ≠ H := by
    rintro k o h1 h2 rfl
    rw [k1] at h1
    exact h2 _ (Option.some.inj h1).symm
  have hhW : h ≤ W.heap.size := by have := lt_of_heap k1; omega
  have own1 : (W.alloc o').ownsRow h e s v n xs := own_keep own fun k cur hc => Below.heap_alloc _ _ _ (lt_of_heap hc)
  have hbe : Below h w W5 := below_grown (J.be.alloc hhW _) own1 hg (by simp; omega)
  refine ⟨⟨kp J.l (by simp) (ne J.l (by simp)), kp J.dd (by simp) (ne J.dd (by simp)), kp J.xx (by intro cur hc; simp at hc; exact hx hc.2) (ne J.xx (by intro cur hc; simp at hc; exact ht2 hc.2.symm)), hbe.setCell (p := ⟨H, 0, none⟩) hH _⟩, H5, ?_, ?_⟩
  · rw [heap_set H5]; simp
  · refine own_keep own' fun k cur hc => Below.heap_setCell _ _ _ _ ?_
    rintro rfl
    rw [H5] at hc
    simp at hc
    exact ht hc.2
theorem setup (w : World) (r : Loop) : ((w.alloc (.deferred (some []))).alloc (.loop r)).heap[w.heap.size + 1]? = some (.loop r) ∧ ((w.alloc (.deferred (some []))).alloc (.loop r)).heap[w.heap.size]? = some (.deferred (some [])) ∧ Below w.heap.size w ((w.alloc (.deferred (some []))).alloc (.loop r)) :=
  ⟨putAll _ _ (by simp), (Below.heap_alloc _ _ _ (by simp)).trans (putAll _ _ rfl), ((Below.refl _ _).alloc (Nat.le_refl _) _).alloc (by simp) _⟩
theorem two0 (w : World) (o1 o2 : Obj) : ∃ V : World, ((w.alloc o1).alloc o2) = V ∧ V.heap.size = w.heap.size + 2 ∧ V.heap[w.heap.size]? = some o1 ∧ V.heap[w.heap.size + 1]? = some o2 ∧ Below w.heap.size w V := by
  refine ⟨_, rfl, by simp, ?_, ?_, ?_⟩
  · rw [Below.heap_alloc _ _ _ (by simp)]; exact putAll _ _ rfl
  · exact putAll _ _ (by simp)
  · exact ((Below.refl w.heap.size w).alloc (Nat.le_refl _) o1).alloc (by simp) o2
theorem four0 (w : World) (o1 o2 o3 o4 : Obj) : ∃ V : World, (((w.alloc o1).alloc o2).alloc o3).alloc o4 = V ∧ V.heap.size = w.heap.size + 4 ∧ V.heap[w.heap.size]? = some o1 ∧ V.heap[w.heap.size + 1]? = some o2 ∧ V.heap[w.heap.size + 2]? = some o3 ∧ V.heap[w.heap.size + 3]? = some o4 ∧ Below w.heap.size w V := by
  obtain ⟨V, hV, hs, g0, g1, hB⟩ := two0 w o1 o2
  obtain ⟨V2, hV2, hs2, g2, g3, hB2⟩ := two0 V o3 o4
  rw [hV, hV2]
  rw [hs] at g2 g3 hs2
  exact ⟨V2, rfl, hs2, (hB2.block _ (by omega)).trans g0, (hB2.block _ (by omega)).trans g1, g2, g3, hB.trans (hB2.mono (by omega))⟩
theorem three0 (w : World) (o1 o2 o3 : Obj) : ∃ V : World, ((w.alloc o1).alloc o2).alloc o3 = V ∧ V.heap.size = w.heap.size + 3 ∧ V.heap[w.heap.size]? = some o1 ∧ V.heap[w.heap.size + 1]? = some o2 ∧ V.heap[w.heap.size + 2]? = some o3 ∧ Below w.heap.size w V := by
  obtain ⟨V, hV, hs, g0, g1, hB⟩ := two0 w o1 o2
  rw [hV]
  refine ⟨_, rfl, by simp [hs], (Below.heap_alloc _ _ _ (by omega)).trans g0, (Below.heap_alloc _ _ _ (by omega)).trans g1, putAll _ _ hs.symm, hB.alloc (by omega) o3⟩
end Go.Proofs.YtlngeaacjbdmhaaGreat.Mt
