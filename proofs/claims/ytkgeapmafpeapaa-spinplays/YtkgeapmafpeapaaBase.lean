/-
  Contracts of the small functions of package cell: settle answers the access as it was made, has tells whether a cell is there, step makes one access of a memory.
-/
import Derived.Test.YtkgeapmafpeapaaRows
import Derived.WalkKit
import Derived.WalkSpells
import Derived.Deep.RegionHeld3
import Derived.Deep.DrawnRows
import Derived.Deep.QuietTactic
import Derived.BigQuiet
namespace Go.Proofs.Ytkgeapmafpeapaa
open Go.RowKit
attribute [local go_sem ↓] Go.wp_at_zero Go.wp_at_succ

/-- What a cell holds behind an access of kind k, and whether that was done. -/
def nwOf (k old new held : Int) : Int := if k = 2 then new else if k = 3 then (if held = old then new else held) else held
def dnOf (k old held : Int) : Bool := if k = 3 then held == old else true

/-- But for the blocks b and c all that lay lies as it lay; no block has gone. -/
structure Frm (b c : Nat) (w w' : World) : Prop where
  os : w'.os = w.os
  tape : w'.tape = w.tape
  output : w'.output = w.output
  size : w.heap.size ≤ w'.heap.size
  block : ∀ k, k < w.heap.size → k ≠ b → k ≠ c → w'.heap[k]? = w.heap[k]?

theorem Frm.refl (b c : Nat) (w : World) : Frm b c w w := ⟨rfl, rfl, rfl, Nat.le_refl _, fun _ _ _ _ => rfl⟩
theorem Frm.trans {b c : Nat} {u v w : World} (h : Frm b c u v) (g : Frm b c v w) : Frm b c u w :=
  ⟨g.os.trans h.os, g.tape.trans h.tape, g.output.trans h.output, Nat.le_trans h.size g.size, fun k hk h1 h2 => (g.block k (Nat.lt_of_lt_of_le hk h.size) h1 h2).trans (h.block k hk h1 h2)⟩
theorem Frm.of_below {b c : Nat} {w w' : World} (h : Below w.heap.size w w') : Frm b c w w' := ⟨h.os, h.tape, h.output, h.size, fun k hk _ _ => h.block k hk⟩
theorem Frm.alloc {b c : Nat} {u w : World} (h : Frm b c u w) (o : Obj) : Frm b c u (w.alloc o) :=
  h.trans (.of_below ((Below.refl _ w).alloc (Nat.le_refl _) o))
theorem Frm.drew {b c : Nat} {u w : World} (h : Frm b c u w) : Frm b c u w.drew := ⟨h.os, h.tape, h.output, h.size, h.block⟩
theorem Frm.set {b c : Nat} {u w : World} (h : Frm b c u w) {p : Addr} (hp : p.block = b ∨ p.block = c) (v : Value) : Frm b c u (w.setCell p v) :=
  h.trans ⟨rfl, rfl, rfl, by simp [World.setCell], fun k _ h1 h2 => Below.heap_setCell _ _ _ _ (by rcases hp with e | e <;> omega)⟩
theorem Frm.setNew {b c : Nat} {u w : World} (h : Frm b c u w) {p : Addr} (hp : u.heap.size ≤ p.block) (v : Value) : Frm b c u (w.setCell p v) :=
  ⟨h.os, h.tape, h.output, by have := h.size; simp [World.setCell]; omega, fun k hk h1 h2 => (Below.heap_setCell _ _ _ _ (by omega)).trans (h.block k hk h1 h2)⟩
theorem Frm.below {B b c : Nat} {w w' : World} (h : Frm b c w w') (hb : B ≤ b) (hc : B ≤ c) (hB : B ≤ w.heap.size) : Below B w w' :=
  ⟨h.os, h.tape, h.output, h.size, fun k hk => h.block k (by omega) (by omega) (by omega)⟩

/-- A memory of n cells: its struct lies in block b, its words in block c. -/
structure Mem (W : World) (b c n : Nat) (ws : List Int) (st k a o v : Int) (d : Bool) : Prop where
  hb : W.heap[b]? = some (.cells #[.slice (some ⟨c, 0, none⟩) n n, .int .i64 st, .int .i64 k, .int .i64 a, .int .i64 o, .int .i64 v, .bool d] 79)
  hc : W.heap[c]? = some (.cells (ws.map (Value.int .i64)).toArray 2)
  ne : b ≠ c
  len : ws.length = n
  lo : 0 < n
  hi : n ≤ 64

theorem Mem.blt {W : World} {b c n : Nat} {ws : List Int} {st k a o v : Int} {d : Bool} (h : Mem W b c n ws st k a o v d) : b < W.heap.size := (Array.getElem?_eq_some_iff.1 h.hb).1
theorem Mem.clt {W : World} {b c n : Nat} {ws : List Int} {st k a o v : Int} {d : Bool} (h : Mem W b c n ws st k a o v d) : c < W.heap.size := (Array.getElem?_eq_some_iff.1 h.hc).1
theorem Mem.of {W W' : World} {b c n : Nat} {ws : List Int} {st k a o v : Int} {d : Bool} (h : Mem W b c n ws st k a o v d) (e1 : W'.heap[b]? = W.heap[b]?) (e2 : W'.heap[c]? = W.heap[c]?) : Mem W' b c n ws st k a o v d :=
  ⟨e1.trans h.hb, e2.trans h.hc, h.ne, h.len, h.lo, h.hi⟩
theorem Mem.below {W W' : World} {b c n : Nat} {ws : List Int} {st k a o v : Int} {d : Bool} (h : Mem W b c n ws st k a o v d) (g : Below W.heap.size W W') : Mem W' b c n ws st k a o v d :=
  h.of (g.block _ h.blt) (g.block _ h.clt)
theorem Mem.frm {W W' : World} {b c n b' c' : Nat} {ws : List Int} {st k a o v : Int} {d : Bool} (h : Mem W b c n ws st k a o v d) (g : Frm b' c' W W') (h1 : b ≠ b') (h2 : b ≠ c') (h3 : c ≠ b') (h4 : c ≠ c') : Mem W' b c n ws st k a o v d :=
  h.of (g.block _ h.blt h1 h2) (g.block _ h.clt h3 h4)
theorem Mem.alloc {W : World} {b c n : Nat} {ws : List Int} {st k a o v : Int} {d : Bool} (h : Mem W b c n ws st k a o v d) (ob : Obj) : Mem (W.alloc ob) b c n ws st k a o v d :=
  h.below ((Below.refl _ W).alloc (Nat.le_refl _) ob)
theorem Mem.drew {W : World} {b c n : Nat} {ws : List Int} {st k a o v : Int} {d : Bool} (h : Mem W b c n ws st k a o v d) : Mem W.drew b c n ws st k a o v d :=
  h.of rfl rfl

/-- The cells of a block that is known. -/
theorem cell_of {W : World} {b : Nat} {cs : Array Value} {t : TypeId} {f : Nat × Nat} (h : W.heap[b]? = some (.cells cs t f)) (i : Nat) : W.cell? ⟨b, i, none⟩ = cs[i]? := by
  simp [World.cell?, h]
theorem frozen_of {W : World} {b : Nat} {cs : Array Value} {t : TypeId} (h : W.heap[b]? = some (.cells cs t)) (i : Nat) : W.frozen? ⟨b, i, none⟩ = false := by
  simp [World.frozen?, h]

/-- What the walk wants to know of a memory's struct. -/
theorem Mem.cells {W : World} {b c n : Nat} {ws : List Int} {st k a o v : Int} {d : Bool} (h : Mem W b c n ws st k a o v d) :
    W.cell? ⟨b, 0, none⟩ = some (.slice (some ⟨c, 0, none⟩) n n) ∧ W.cell? ⟨b, 1, none⟩ = some (.int .i64 st) ∧ W.cell? ⟨b, 2, none⟩ = some (.int .i64 k) ∧ W.cell? ⟨b, 3, none⟩ = some (.int .i64 a) ∧
    W.cell? ⟨b, 4, none⟩ = some (.int .i64 o) ∧ W.cell? ⟨b, 5, none⟩ = some (.int .i64 v) ∧ W.cell? ⟨b, 6, none⟩ = some (.bool d) ∧ ∀ i, W.frozen? ⟨b, i, none⟩ = false := by
  refine ⟨?_, ?_, ?_, ?_, ?_, ?_, ?_, frozen_of h.hb⟩ <;> rw [cell_of h.hb] <;> rfl
theorem Mem.word {W : World} {b c n : Nat} {ws : List Int} {st k a o v : Int} {d : Bool} (h : Mem W b c n ws st k a o v d) (i : Nat) (hi : i < n) :
    W.cell? ⟨c, i, none⟩ = some (.int .i64 (ws.getD i 0)) ∧ W.frozen? ⟨c, i, none⟩ = false := by
  refine ⟨?_, frozen_of h.hc i⟩
  rw [cell_of h.hc]
  have : i < ws.length := by rw [h.len]; exact hi
  simp [this]

/-- A store into a block that is known. -/
theorem heap_set {W : World} {b : Nat} {cs : Array Value} {t : TypeId} {f : Nat × Nat} (h : W.heap[b]? = some (.cells cs t f)) (i : Nat) (v : Value) :
    (W.setCell ⟨b, i, none⟩ v).heap[b]? = some (.cells (cs.setIfInBounds i v) t f) := by
  obtain ⟨hl, he⟩ := Array.getElem?_eq_some_iff.1 h
  simp [World.setCell, Array.getElem?_modify, h]

set_option maxHeartbeats 400000 in
theorem settle1 (at_ old new held : Int) (d : Bool) (w : World) :
    Calls Try.prog 54 #[.agg #[.int .i64 1, .int .i64 at_, .int .i64 old, .int .i64 new, .bool d], .int .i64 held] w fun e w' =>
      e = .returned (.agg #[.int .i64 1, .int .i64 at_, .int .i64 held, .int .i64 held, .bool true]) ∧ Below w.heap.size w w' := by
  go_enter Try.func54, Try.ntmps54
  go_wp2
  exact bodyPost_ret (v := .agg #[.int .i64 1, .int .i64 at_, .int .i64 held, .int .i64 held, .bool true]) (by simp [results, Try.results54, go_sem]) rfl
    ⟨rfl, (((Below.refl _ _).alloc (Nat.le_refl _) _).alloc (by simp) _).alloc (by simp; omega) _⟩
set_option maxHeartbeats 400000 in
theorem settle2 (at_ old new held : Int) (d : Bool) (w : World) :
    Calls Try.prog 54 #[.agg #[.int .i64 2, .int .i64 at_, .int .i64 old, .int .i64 new, .bool d], .int .i64 held] w fun e w' =>
      e = .returned (.agg #[.int .i64 2, .int .i64 at_, .int .i64 held, .int .i64 new, .bool true]) ∧ Below w.heap.size w w' := by
  go_enter Try.func54, Try.ntmps54
  go_wp2
  exact bodyPost_ret (v := .agg #[.int .i64 2, .int .i64 at_, .int .i64 held, .int .i64 new, .bool true]) (by simp [results, Try.results54, go_sem]) rfl
    ⟨rfl, (((Below.refl _ _).alloc (Nat.le_refl _) _).alloc (by simp) _).alloc (by simp; omega) _⟩
set_option maxHeartbeats 400000 in
theorem settle3y (at_ old new held : Int) (d : Bool) (w : World) (h : (held == old) = true) :
    Calls Try.prog 54 #[.agg #[.int .i64 3, .int .i64 at_, .int .i64 old, .int .i64 new, .bool d], .int .i64 held] w fun e w' =>
      e = .returned (.agg #[.int .i64 3, .int .i64 at_, .int .i64 held, .int .i64 new, .bool true]) ∧ Below w.heap.size w w' := by
  go_enter Try.func54, Try.ntmps54
  go_wp2
  exact bodyPost_ret (v := .agg #[.int .i64 3, .int .i64 at_, .int .i64 held, .int .i64 new, .bool true]) (by simp [results, Try.results54, go_sem]) rfl
    ⟨rfl, (((Below.refl _ _).alloc (Nat.le_refl _) _).alloc (by simp) _).alloc (by simp; omega) _⟩
set_option maxHeartbeats 400000 in
theorem settle3n (at_ old new held : Int) (d : Bool) (w : World) (h : (held == old) = false) :
    Calls Try.prog 54 #[.agg #[.int .i64 3, .int .i64 at_, .int .i64 old, .int .i64 new, .bool d], .int .i64 held] w fun e w' =>
      e = .returned (.agg #[.int .i64 3, .int .i64 at_, .int .i64 held, .int .i64 held, .bool false]) ∧ Below w.heap.size w w' := by
  go_enter Try.func54, Try.ntmps54
  go_wp2
  exact bodyPost_ret (v := .agg #[.int .i64 3, .int .i64 at_, .int .i64 held, .int .i64 held, .bool false]) (by simp [results, Try.results54, go_sem]) rfl
    ⟨rfl, (((Below.refl _ _).alloc (Nat.le_refl _) _).alloc (by simp) _).alloc (by simp; omega) _⟩

theorem settle_any (k at_ old new held : Int) (d : Bool) (w : World) (hk : k = 1 ∨ k = 2 ∨ k = 3) :
    Calls Try.prog 54 #[.agg #[.int .i64 k, .int .i64 at_, .int .i64 old, .int .i64 new, .bool d], .int .i64 held] w fun e w' =>
      e = .returned (.agg #[.int .i64 k, .int .i64 at_, .int .i64 held, .int .i64 (nwOf k old new held), .bool (dnOf k old held)]) ∧ Below w.heap.size w w' := by
  rcases hk with rfl | rfl | rfl
  · exact settle1 at_ old new held d w
  · exact settle2 at_ old new held d w
  · by_cases h : held = old
    · have e1 : nwOf 3 old new held = new := by simp [nwOf, h]
      have e2 : dnOf 3 old held = true := by simp [dnOf, h]
      rw [e1, e2]; exact settle3y at_ old new held d w (by simp [h])
    · have e1 : nwOf 3 old new held = held := by simp [nwOf, h]
      have e2 : dnOf 3 old held = false := by simp [dnOf, h]
      rw [e1, e2]; exact settle3n at_ old new held d w (by simp [h])

set_option maxHeartbeats 400000 in
theorem has_no1 (b : Nat) (a : Int) (w : World) (ha : a < 0) :
    Calls Try.prog 50 #[.pointer (some ⟨b, 0, none⟩), .int .i64 a] w fun e w' => e = .returned (.bool false) ∧ w' = w := by
  have hd : ¬ (0 : Int) ≤ a := by omega
  go_enter Try.func50, Try.ntmps50
  go_wp2
  go_ret
  exact ⟨rfl, rfl⟩
set_option maxHeartbeats 400000 in
theorem has_no2 (b c n : Nat) (a : Int) (w : World) (h : w.cell? ⟨b, 0, none⟩ = some (.slice (some ⟨c, 0, none⟩) n n)) (h0 : 0 ≤ a) (ha : (n : Int) ≤ a) :
    Calls Try.prog 50 #[.pointer (some ⟨b, 0, none⟩), .int .i64 a] w fun e w' => e = .returned (.bool false) ∧ w' = w := by
  have hd : ¬ a < (n : Int) := by omega
  go_enter Try.func50, Try.ntmps50
  go_wp2
  go_ret
  exact ⟨rfl, rfl⟩
set_option maxHeartbeats 400000 in
theorem has_yes (b c n : Nat) (a : Int) (w : World) (h : w.cell? ⟨b, 0, none⟩ = some (.slice (some ⟨c, 0, none⟩) n n)) (h0 : 0 ≤ a) (ha : a < (n : Int)) :
    Calls Try.prog 50 #[.pointer (some ⟨b, 0, none⟩), .int .i64 a] w fun e w' => e = .returned (.bool true) ∧ w' = w := by
  go_enter Try.func50, Try.ntmps50
  go_wp2
  go_ret
  exact ⟨rfl, rfl⟩
end Go.Proofs.Ytkgeapmafpeapaa
