/-
  A Grace in its three blocks: its struct, its readers' sections and the row of what waits (nine cells each); what a walk is told of them, what a store leaves; the contracts of has, Enter and New.
-/
import Derived.Test.YtkgcgfnleabkdaaRows
import Derived.WalkKit
import Derived.WalkSpells
import Derived.Deep.RegionHeld3
import Derived.Deep.DrawnRows
import Derived.Deep.QuietTactic
import Derived.BigQuiet
import Derived.Deep.OwnRows
import Derived.Laws.CopyOwn
import Derived.ArgAppend
namespace Go.Proofs.Ytkgcgfnleabkdaa
open Go.RowKit
attribute [local go_sem ↓] Go.wp_at_zero Go.wp_at_succ

theorem hide {p : Prop} (h : p) : Hid p := h
theorem unhide {p : Prop} (h : Hid p) : p := h
theorem putAll {w : World} (o : Obj) (h : Nat) (hh : h = w.heap.size) : (w.alloc o).heap[h]? = some o := by
  subst hh; exact heap_alloc_new w o
theorem lt_of_heap {W : World} {k : Nat} {o : Obj} (e : W.heap[k]? = some o) : k < W.heap.size := (Array.getElem?_eq_some_iff.1 e).1
theorem below_dn {B : Nat} {u w : World} (h : Below B u w) (m : Nat) : Below B u (w.drewN m) := ⟨h.os, h.tape, h.output, h.size, h.block⟩
theorem below_drew {B : Nat} {u w : World} (h : Below B u w) : Below B u w.drew := ⟨h.os, h.tape, h.output, h.size, h.block⟩

/-- But for the blocks b and c, and rows of what waits, all that lay lies as it lay; below base all does. -/
structure Fr (base b c : Nat) (w w' : World) : Prop where
  os : w'.os = w.os
  tape : w'.tape = w.tape
  output : w'.output = w.output
  size : w.heap.size ≤ w'.heap.size
  low : ∀ k, k < base → w'.heap[k]? = w.heap[k]?
  blk : ∀ (k : Nat) (o : Obj), w.heap[k]? = some o → k ≠ b → k ≠ c → (∀ cur, o ≠ .cells cur 58 (0, 0)) → w'.heap[k]? = some o

theorem Fr.refl (base b c : Nat) (w : World) : Fr base b c w w := ⟨rfl, rfl, rfl, Nat.le_refl _, fun _ _ => rfl, fun _ _ h _ _ _ => h⟩
theorem Fr.trans {base b c : Nat} {u v w : World} (h : Fr base b c u v) (g : Fr base b c v w) : Fr base b c u w :=
  ⟨g.os.trans h.os, g.tape.trans h.tape, g.output.trans h.output, Nat.le_trans h.size g.size, fun k hk => (g.low k hk).trans (h.low k hk), fun k o h1 h2 h3 h4 => g.blk k o (h.blk k o h1 h2 h3 h4) h2 h3 h4⟩
theorem Fr.of_below {base b c : Nat} {w w' : World} (h : Below w.heap.size w w') (hb : base ≤ w.heap.size) : Fr base b c w w' :=
  ⟨h.os, h.tape, h.output, h.size, fun k hk => h.block k (by omega), fun k _ hk _ _ _ => (h.block k (lt_of_heap hk)).trans hk⟩
theorem Fr.alloc {base b c : Nat} {u w : World} (h : Fr base b c u w) (hb : base ≤ w.heap.size) (o : Obj) : Fr base b c u (w.alloc o) :=
  h.trans (.of_below ((Below.refl _ w).alloc (Nat.le_refl _) o) hb)
theorem Fr.drew {base b c : Nat} {u w : World} (h : Fr base b c u w) : Fr base b c u w.drew := ⟨h.os, h.tape, h.output, h.size, h.low, h.blk⟩
theorem Fr.dn {base b c : Nat} {u w : World} (h : Fr base b c u w) (m : Nat) : Fr base b c u (w.drewN m) := ⟨h.os, h.tape, h.output, h.size, h.low, h.blk⟩
theorem Fr.set {base b c : Nat} {u w : World} (h : Fr base b c u w) {p : Addr} (hp : p.block = b ∨ p.block = c) (hb : base ≤ b) (hc : base ≤ c) (v : Value) : Fr base b c u (w.setCell p v) :=
  h.trans ⟨rfl, rfl, rfl, by simp [World.setCell], fun k hk => Below.heap_setCell _ _ _ _ (by rcases hp with e | e <;> omega), fun k o h1 h2 h3 _ => (Below.heap_setCell _ _ _ _ (by rcases hp with e | e <;> omega)).trans h1⟩
theorem Fr.below {base b c : Nat} {w w' : World} (h : Fr base b c w w') : Below base w w' := ⟨h.os, h.tape, h.output, h.size, h.low⟩

/-- Rows of one length, one behind the other. -/
def rowsOf {α : Type} (r : α → List Value) (ms : List α) : List Value := ms.flatMap r
theorem rowsOf_length {α : Type} (r : α → List Value) (k : Nat) (hr : ∀ x, (r x).length = k) (ms : List α) : (rowsOf r ms).length = k * ms.length := by
  induction ms with
  | nil => rfl
  | cons x l ih => simp only [rowsOf, List.flatMap_cons, List.length_append, List.length_cons] at *; rw [ih, hr, Nat.mul_succ]; omega
theorem rowsOf_get {α : Type} (r : α → List Value) (k : Nat) (hr : ∀ x, (r x).length = k) (ms : List α) (i f : Nat) (M : α) (hi : ms[i]? = some M) (hf : f < k) : (rowsOf r ms)[k * i + f]? = (r M)[f]? := by
  induction ms generalizing i with
  | nil => simp at hi
  | cons x l ih =>
    simp only [rowsOf, List.flatMap_cons]
    cases i with
    | zero => simp at hi; subst hi; rw [List.getElem?_append_left (by rw [hr]; omega)]; simp
    | succ j =>
      have := ih j (by simpa using hi)
      rw [List.getElem?_append_right (by rw [hr, Nat.mul_succ]; omega), hr, ← this]
      rw [Nat.mul_succ, show k * j + k + f - k = k * j + f by omega]; rfl
theorem rowsOf_set {α : Type} (r : α → List Value) (k : Nat) (hr : ∀ x, (r x).length = k) (ms : List α) (i f : Nat) (M M' : α) (v : Value) (hi : ms[i]? = some M) (hf : f < k) (he : r M' = (r M).set f v) :
    (rowsOf r ms).set (k * i + f) v = rowsOf r (ms.set i M') := by
  induction ms generalizing i with
  | nil => simp at hi
  | cons x l ih =>
    simp only [rowsOf, List.flatMap_cons]
    cases i with
    | zero => simp at hi; subst hi; rw [List.set_append_left _ _ (by rw [hr]; omega)]; simp [he]
    | succ j =>
      have := ih j (by simpa using hi)
      rw [List.set_append_right _ _ (by rw [hr, Nat.mul_succ]; omega), hr]
      rw [Nat.mul_succ, show k * j + k + f - k = k * j + f by omega]
      simp only [rowsOf] at this
      simp [this]
theorem rowsOf_append {α : Type} (r : α → List Value) (xs ys : List α) : rowsOf r (xs ++ ys) = rowsOf r xs ++ rowsOf r ys := by simp [rowsOf]

/-- The cells of a block that is known. -/
theorem cell_of {W : World} {b : Nat} {cs : Array Value} {t : TypeId} {f : Nat × Nat} (h : W.heap[b]? = some (.cells cs t f)) (i : Nat) : W.cell? ⟨b, i, none⟩ = cs[i]? := by
  simp [World.cell?, h]
theorem frozen_of {W : World} {b : Nat} {cs : Array Value} {t : TypeId} (h : W.heap[b]? = some (.cells cs t)) (i : Nat) : W.frozen? ⟨b, i, none⟩ = false := by
  simp [World.frozen?, h]
/-- A store into a block that is known. -/
theorem heap_set {W : World} {b : Nat} {cs : Array Value} {t : TypeId} {f : Nat × Nat} (h : W.heap[b]? = some (.cells cs t f)) (i : Nat) (v : Value) :
    (W.setCell ⟨b, i, none⟩ v).heap[b]? = some (.cells (cs.setIfInBounds i v) t f) := by
  obtain ⟨hl, he⟩ := Array.getElem?_eq_some_iff.1 h
  simp [World.setCell, Array.getElem?_modify, h]
theorem get_set {α : Type} {xs : List α} {i : Nat} {x : α} (hi : xs[i]? = some x) (y : α) : (xs.set i y)[i]? = some y := by
  have := (List.getElem?_eq_some_iff.1 hi).1
  simp [this]

theorem own_ne {W : World} {base : Nat} {e : TypeId} {s n k : Nat} {v : Value} {xs : List Value} {o : Obj} (h : W.ownsRow base e s v n xs) (ho : W.heap[k]? = some o) (hne : ∀ cur, o ≠ .cells cur e (0, 0)) : some k ≠ v.ownBlock := by
  obtain ⟨-, ⟨rfl, hz⟩ | ⟨g, cap, cur, rfl, hgb, hgg, hcap, hcm, hcs, htk⟩⟩ := h
  · simp [Value.ownBlock]
  · simp only [Value.ownBlock, ne_eq, Option.some.injEq]
    rintro rfl
    rw [hgg] at ho
    exact hne cur (Option.some.inj ho).symm
theorem own_keep {W W' : World} {base : Nat} {e : TypeId} {s n : Nat} {v : Value} {xs : List Value} (h : W.ownsRow base e s v n xs) (hb : ∀ (k : Nat) (cur : Array Value), W.heap[k]? = some (Obj.cells cur e (0, 0)) → W'.heap[k]? = W.heap[k]?) : W'.ownsRow base e s v n xs := by
  obtain ⟨h0, h1⟩ := h
  refine ⟨h0, ?_⟩
  rcases h1 with h1 | ⟨g, cap, cur, h1, h2, h3, h4⟩
  · exact .inl h1
  · exact .inr ⟨g, cap, cur, h1, h2, (hb g cur h3).trans h3, h4⟩
theorem own_form {W : World} {base : Nat} {e : TypeId} {s n : Nat} {v : Value} {xs : List Value} (h : W.ownsRow base e s v n xs) : ∃ a cap, v = .slice a n cap := by
  obtain ⟨-, ⟨rfl, hz⟩ | ⟨g, cap, cur, rfl, _⟩⟩ := h
  · exact ⟨none, 0, by rw [hz]⟩
  · exact ⟨_, _, rfl⟩
theorem own_open {W : World} {base : Nat} {e : TypeId} {s n : Nat} {v : Value} {xs : List Value} (h : W.ownsRow base e s v n xs) (hn : n ≠ 0) :
    ∃ g cap cur, v = .slice (some ⟨g, 0, none⟩) n cap ∧ base ≤ g ∧ W.heap[g]? = some (.cells cur e) ∧ n ≤ cap ∧ cap ≤ maxLen ∧ cur.size = cap * s ∧ ∀ (j : Nat) (u : Value), xs[j]? = some u → W.cell? ⟨g, j, none⟩ = some u := by
  obtain ⟨hl, ⟨rfl, hz⟩ | ⟨g, cap, cur, rfl, hgb, hgg, hcap, hcm, hcs, htk⟩⟩ := h
  · exact absurd hz hn
  · refine ⟨g, cap, cur, rfl, hgb, hgg, hcap, hcm, hcs, fun j u hj => ?_⟩
    have hj2 := (List.getElem?_eq_some_iff.1 hj).1
    rw [cell_of hgg, ← hj, ← htk, List.getElem?_take_of_lt (by omega)]
    simp

/-- Eight bits, as cells. -/
def bits (f : Nat → Bool) : List Value := [.bool (f 0), .bool (f 1), .bool (f 2), .bool (f 3), .bool (f 4), .bool (f 5), .bool (f 6), .bool (f 7)]
theorem bits_length (f : Nat → Bool) : (bits f).length = 8 := rfl
theorem lt8 {k : Nat} (h : k < 8) : k = 0 ∨ k = 1 ∨ k = 2 ∨ k = 3 ∨ k = 4 ∨ k = 5 ∨ k = 6 ∨ k = 7 := by omega
theorem bits_get (f : Nat → Bool) (k : Nat) (h : k < 8) : (bits f)[k]? = some (.bool (f k)) := by
  rcases lt8 h with rfl | rfl | rfl | rfl | rfl | rfl | rfl | rfl <;> rfl
def put (f : Nat → Bool) (k : Nat) (x : Bool) : Nat → Bool := fun j => if j = k then x else f j
theorem bits_set (f : Nat → Bool) (k : Nat) (x : Bool) (h : k < 8) : (bits f).set k (.bool x) = bits (put f k x) := by
  rcases lt8 h with rfl | rfl | rfl | rfl | rfl | rfl | rfl | rfl <;> rfl
theorem bits_congr {f g : Nat → Bool} (h : ∀ k, k < 8 → f k = g k) : bits f = bits g := by
  simp [bits, h]

/-- What waits: its id, and for whom. -/
structure Wt where
  id : Int
  on : Nat → Bool
def Wt.row (x : Wt) : List Value := .int .i64 x.id :: bits x.on
theorem Wt.row_length (x : Wt) : (Wt.row x).length = 9 := rfl
abbrev ints (l : List Int) : List Value := l.map (fun k : Int => Value.int .i64 k)

/-- A Grace of n readers: its struct in block b, their sections in c; what waits in a row of its own from base on. -/
structure Gr (base : Nat) (W : World) (b c n : Nat) (ss : List Int) (ws : List Wt) : Prop where
  hb : ∃ a cap, W.heap[b]? = some (.cells #[.slice (some ⟨c, 0, none⟩) n n, .slice a ws.length cap] 53) ∧ W.ownsRow base 58 9 (.slice a ws.length cap) ws.length (rowsOf Wt.row ws)
  hc : W.heap[c]? = some (.cells (ints ss).toArray 3)
  len : ss.length = n
  lo : 1 ≤ n
  hi : n ≤ 8
  kb : base ≤ b
  kc : base ≤ c

section
variable {base : Nat} {W : World} {b c n : Nat} {ss : List Int} {ws : List Wt}
theorem Gr.nb (h : Gr base W b c n ss ws) : b ≠ c := by
  obtain ⟨a, cap, h1, _⟩ := h.hb
  rintro rfl
  have := h.hc
  rw [h1] at this
  simp at this
theorem Gr.lt (h : Gr base W b c n ss ws) : b < W.heap.size ∧ c < W.heap.size := by
  obtain ⟨a, cap, h1, _⟩ := h.hb
  exact ⟨lt_of_heap h1, lt_of_heap h.hc⟩
theorem Gr.base_le (h : Gr base W b c n ss ws) : base ≤ W.heap.size := by have := h.lt; have := h.kb; omega
theorem Gr.keep {W' : World} (h : Gr base W b c n ss ws) (hk : ∀ (k : Nat) (cur : Array Value) (t : TypeId), W.heap[k]? = some (.cells cur t (0, 0)) → (k = b ∨ k = c ∨ t = 58) → W'.heap[k]? = W.heap[k]?) : Gr base W' b c n ss ws := by
  obtain ⟨a, cap, h1, h2⟩ := h.hb
  exact ⟨⟨a, cap, (hk b _ _ h1 (.inl rfl)).trans h1, own_keep h2 fun k cur hc => hk k cur 58 hc (.inr (.inr rfl))⟩, (hk c _ _ h.hc (.inr (.inl rfl))).trans h.hc, h.len, h.lo, h.hi, h.kb, h.kc⟩
theorem Gr.below {W' : World} (h : Gr base W b c n ss ws) (g : Below W.heap.size W W') : Gr base W' b c n ss ws := h.keep fun k _ _ hk _ => g.block k (lt_of_heap hk)
theorem Gr.alloc (h : Gr base W b c n ss ws) (o : Obj) : Gr base (W.alloc o) b c n ss ws := h.below ((Below.refl _ W).alloc (Nat.le_refl _) o)
theorem Gr.drew (h : Gr base W b c n ss ws) : Gr base W.drew b c n ss ws := h.keep fun _ _ _ _ _ => rfl
theorem Gr.dn (h : Gr base W b c n ss ws) (m : Nat) : Gr base (W.drewN m) b c n ss ws := h.keep fun _ _ _ _ _ => rfl
theorem Gr.cells (h : Gr base W b c n ss ws) : ∃ a cap, W.cell? ⟨b, 0, none⟩ = some (.slice (some ⟨c, 0, none⟩) n n) ∧ W.cell? ⟨b, 1, none⟩ = some (.slice a ws.length cap) ∧ (∀ i, W.frozen? ⟨b, i, none⟩ = false) ∧ (∀ i, W.frozen? ⟨c, i, none⟩ = false) ∧ W.ownsRow base 58 9 (.slice a ws.length cap) ws.length (rowsOf Wt.row ws) := by
  obtain ⟨a, cap, h1, h2⟩ := h.hb
  refine ⟨a, cap, ?_, ?_, frozen_of h1, frozen_of h.hc, h2⟩ <;> rw [cell_of h1] <;> rfl
theorem Gr.sec (h : Gr base W b c n ss ws) {k : Nat} {s : Int} (hk : ss[k]? = some s) : W.cell? ⟨c, k, none⟩ = some (.int .i64 s) := by
  rw [cell_of h.hc, List.getElem?_toArray]; simp [ints, hk]
theorem Gr.klt (h : Gr base W b c n ss ws) {k : Nat} {s : Int} (hk : ss[k]? = some s) : k < n := by
  have := (List.getElem?_eq_some_iff.1 hk).1
  rw [← h.len]; exact this
theorem Gr.get (h : Gr base W b c n ss ws) {k : Nat} (hk : k < n) : ∃ s, ss[k]? = some s := ⟨_, List.getElem?_eq_getElem (by rw [h.len]; exact hk)⟩
theorem Gr.setSec (h : Gr base W b c n ss ws) (k : Nat) (s : Int) : Gr base (W.setCell ⟨c, k, none⟩ (.int .i64 s)) b c n (ss.set k s) ws := by
  obtain ⟨a, cap, h1, h2⟩ := h.hb
  have hnb := h.nb
  refine ⟨⟨a, cap, (Below.heap_setCell _ _ _ _ hnb).trans h1, own_keep h2 fun k' cur hc' => Below.heap_setCell _ _ _ _ ?_⟩, ?_, by simp [h.len], h.lo, h.hi, h.kb, h.kc⟩
  · rintro rfl
    have := h.hc
    rw [hc'] at this
    simp at this
  · rw [heap_set h.hc]; simp [ints, List.map_set]
end

set_option maxHeartbeats 400000 in
theorem has_yes (base : Nat) (b c n k : Nat) (ss : List Int) (ws : List Wt) (w : World) (h : Gr base w b c n ss ws) (hk : k < n) :
    Calls Try.prog 30 #[.pointer (some ⟨b, 0, none⟩), .int .i64 (k : Int)] w fun e w' => e = .returned (.bool true) ∧ w' = w := by
  obtain ⟨a, cap, h0, h1, hf, hg, ho⟩ := h.cells
  have k1 : (k : Int) < (n : Int) := by omega
  have k2 : (0 : Int) ≤ (k : Int) := by omega
  clear h ho
  go_enter Try.func30, Try.ntmps30
  go_wp2
  go_ret
  exact ⟨by simp, rfl⟩
set_option maxHeartbeats 400000 in
theorem has_no (base : Nat) (b c n : Nat) (r : Int) (ss : List Int) (ws : List Wt) (w : World) (h : Gr base w b c n ss ws) (hr : r < 0 ∨ (n : Int) ≤ r) :
    Calls Try.prog 30 #[.pointer (some ⟨b, 0, none⟩), .int .i64 r] w fun e w' => e = .returned (.bool false) ∧ w' = w := by
  obtain ⟨a, cap, h0, h1, hf, hg, ho⟩ := h.cells
  clear h ho
  by_cases h3 : r < 0
  · clear hr
    go_enter Try.func30, Try.ntmps30
    go_wp2
    go_ret
    exact ⟨rfl, rfl⟩
  · have h4 : ¬ r < (n : Int) := by omega
    have h5 : 0 ≤ r := by omega
    clear hr h3
    go_enter Try.func30, Try.ntmps30
    go_wp2
    go_ret
    exact ⟨by simp, rfl⟩

set_option maxHeartbeats 400000 in
theorem enter_no (base : Nat) (b c n : Nat) (r : Int) (ss : List Int) (ws : List Wt) (w : World) (h : Gr base w b c n ss ws) (hr : r < 0 ∨ (n : Int) ≤ r) :
    Calls Try.prog 10 #[.pointer (some ⟨b, 0, none⟩), .int .i64 r] w fun e w' => e = .returned (.int .i64 1) ∧ w' = w := by
  have HN := hide (has_no base b c n r ss ws w h hr)
  clear h hr
  go_enter Try.func10, Try.ntmps10
  go_wp2_with fail
  refine (unhide HN).mono ?_
  rintro e w1 ⟨rfl, rfl⟩
  go_wp2_with fail
  go_ret
  exact ⟨rfl, rfl⟩
set_option maxHeartbeats 400000 in
theorem enter_yes (base : Nat) (b c n k : Nat) (s : Int) (ss : List Int) (ws : List Wt) (w : World) (h : Gr base w b c n ss ws) (hk : ss[k]? = some s) (s0 : 0 ≤ s) (s1 : s ≤ 1000000) :
    Calls Try.prog 10 #[.pointer (some ⟨b, 0, none⟩), .int .i64 (k : Int)] w fun e w' => e = .returned (.int .i64 0) ∧ Gr base w' b c n (ss.set k (s + 1)) ws ∧ Fr base b c w w' := by
  have hkn := h.klt hk
  have HN := hide (has_yes base b c n k ss ws w h hkn)
  obtain ⟨a, cap, h0, h1, hf, hg, ho⟩ := h.cells
  have hs := h.sec hk
  have k1 : (k : Int) < (n : Int) := by omega
  have k2 : (0 : Int) ≤ (k : Int) := by omega
  have HG := hide (h.setSec k (s + 1))
  have HB := hide h.kb
  have HC := hide h.kc
  clear h ho hk
  go_enter Try.func10, Try.ntmps10
  go_wp2_with fail
  refine (unhide HN).mono ?_
  rintro e w1 ⟨rfl, rfl⟩
  go_wp2_with fail
  go_ret
  exact ⟨rfl, unhide HG, (Fr.refl base b c w1).set (p := ⟨c, k, none⟩) (.inr rfl) (unhide HB) (unhide HC) _⟩

theorem info3 : (Try.prog.info? 3).map (fun i => (i.zero, i.size, i.bytes)) = some (some (.int .i64 0), 1, 8) := by kernel_rfl
theorem made_zero (n : Nat) : madeCells #[.int .i64 0] n = (List.replicate n (Value.int .i64 0)).toArray := by
  apply Array.ext
  · simp [madeCells]
  · intro i h1 h2
    simp [madeCells, Nat.mod_one]
set_option maxHeartbeats 400000 in
theorem new_bad (m : Int) (hm : m < 1 ∨ 8 < m) (w : World) :
    Calls Try.prog 8 #[.int .i64 m] w fun e w' => e = .returned (.tuple #[.pointer none, .int .i64 1]) ∧ w' = w := by
  by_cases h1 : m < 1
  · clear hm
    go_enter Try.func8, Try.ntmps8
    go_wp2_with fail
    go_ret2
    exact ⟨rfl, rfl⟩
  · have h2 : 8 < m := by omega
    clear hm
    go_enter Try.func8, Try.ntmps8
    go_wp2_with fail
    go_ret2
    exact ⟨rfl, rfl⟩
set_option maxHeartbeats 400000 in
theorem new_good (n : Nat) (h1 : 1 ≤ n) (h2 : n ≤ 8) (w : World) :
    Calls Try.prog 8 #[.int .i64 (n : Int)] w fun e w' => e = .returned (.tuple #[.pointer (some ⟨w.heap.size + 1, 0, none⟩), .int .i64 0]) ∧
      Gr w.heap.size w' (w.heap.size + 1) w.heap.size n (List.replicate n 0) [] ∧ Below w.heap.size w w' := by
  have hmk := fun w => run_make_row' (P := Try.prog) 31 3 (.int .i64 0) 8 Try.underlying31 info3 rfl .i64 .i64 n (by omega) (by omega) w
  rw [made_zero n] at hmk
  have q1 : ¬ (n : Int) < 1 := by omega
  have q2 : ¬ (8 : Int) < (n : Int) := by omega
  go_enter Try.func8, Try.ntmps8
  go_wp2_with fail
  go_ret2
  have hB := ((Below.refl w.heap.size w).alloc (Nat.le_refl _) (.cells (List.replicate n (Value.int .i64 0)).toArray 3)).alloc (by simp) (.cells #[.slice (some ⟨w.heap.size, 0, none⟩) n n, .slice none 0 0] 53)
  simp only [List.toArray_replicate] at hB
  refine ⟨rfl, ⟨⟨none, 0, ?_, World.ownsRow_nil _ _ _ _⟩, ?_, by simp, h1, h2, by omega, by omega⟩, hB⟩
  · exact putAll _ _ (by simp)
  · rw [Below.heap_alloc _ _ _ (by simp)]
    rw [putAll _ _ rfl]; simp [ints]
end Go.Proofs.Ytkgcgfnleabkdaa
