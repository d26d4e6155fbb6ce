/-
  A table in its blocks: its struct, the heads of its chains, and entries that point on; what a walk is told of them, what a store leaves; frames that name the cells which a call may have changed.
-/
import Derived.Test.YtbmcnfdciogmjaaRows
import Derived.WalkKit
import Derived.WalkSpells
import Derived.Deep.RegionHeld3
import Derived.Deep.DrawnRows
import Derived.Deep.QuietTactic
import Derived.BigQuiet
import Derived.Deep.OwnRows
import Derived.Laws.CopyOwn
import Derived.ArgAppend
namespace Go.Proofs.Ytbmcnfdciogmjaa
open Go.RowKit
attribute [local go_sem ↓] Go.wp_at_zero Go.wp_at_succ

theorem hide {p : Prop} (h : p) : Hid p := h
theorem unhide {p : Prop} (h : Hid p) : p := h
theorem putAll {w : World} (o : Obj) (h : Nat) (hh : h = w.heap.size) : (w.alloc o).heap[h]? = some o := by
  subst hh; exact heap_alloc_new w o
theorem lt_of_heap {W : World} {k : Nat} {o : Obj} (e : W.heap[k]? = some o) : k < W.heap.size := (Array.getElem?_eq_some_iff.1 e).1
theorem below_dn {B : Nat} {u w : World} (h : Below B u w) (m : Nat) : Below B u (w.drewN m) := ⟨h.os, h.tape, h.output, h.size, h.block⟩
theorem below_drew {B : Nat} {u w : World} (h : Below B u w) : Below B u w.drew := ⟨h.os, h.tape, h.output, h.size, h.block⟩
theorem cell_of {W : World} {b : Nat} {cs : Array Value} {t : TypeId} {f : Nat × Nat} (h : W.heap[b]? = some (.cells cs t f)) (i : Nat) : W.cell? ⟨b, i, none⟩ = cs[i]? := by
  simp [World.cell?, h]
theorem frozen_of {W : World} {b : Nat} {cs : Array Value} {t : TypeId} (h : W.heap[b]? = some (.cells cs t)) (i : Nat) : W.frozen? ⟨b, i, none⟩ = false := by
  simp [World.frozen?, h]
theorem heap_set {W : World} {b : Nat} {cs : Array Value} {t : TypeId} {f : Nat × Nat} (h : W.heap[b]? = some (.cells cs t f)) (i : Nat) (v : Value) :
    (W.setCell ⟨b, i, none⟩ v).heap[b]? = some (.cells (cs.setIfInBounds i v) t f) := by
  obtain ⟨hl, he⟩ := Array.getElem?_eq_some_iff.1 h
  simp [World.setCell, Array.getElem?_modify, h]
theorem lt_of_cell {W : World} {p : Addr} {v : Value} (h : W.cell? p = some v) : p.block < W.heap.size := by
  cases Nat.lt_or_ge p.block W.heap.size with
  | inl h' => exact h'
  | inr h' => simp [World.cell?, Array.getElem?_eq_none h'] at h
theorem cell_same {W W' : World} {k : Nat} (h : W'.heap[k]? = W.heap[k]?) (i : Nat) : W'.cell? ⟨k, i, none⟩ = W.cell? ⟨k, i, none⟩ := by simp [World.cell?, h]
theorem frozen_same {W W' : World} {k : Nat} (h : W'.heap[k]? = W.heap[k]?) (i : Nat) : W'.frozen? ⟨k, i, none⟩ = W.frozen? ⟨k, i, none⟩ := by simp [World.frozen?, h]

/-- But for the cells that S names, all that lay lies as it lay. -/
structure Fr (S : List (Nat × Nat)) (w w' : World) : Prop where
  os : w'.os = w.os
  tape : w'.tape = w.tape
  output : w'.output = w.output
  size : w.heap.size ≤ w'.heap.size
  blk : ∀ k, k < w.heap.size → (∀ i, (k, i) ∉ S) → w'.heap[k]? = w.heap[k]?
  cel : ∀ k i, k < w.heap.size → (k, i) ∉ S → w'.cell? ⟨k, i, none⟩ = w.cell? ⟨k, i, none⟩
  frz : ∀ k i, k < w.heap.size → w'.frozen? ⟨k, i, none⟩ = w.frozen? ⟨k, i, none⟩

theorem Fr.of_below {S : List (Nat × Nat)} {w w' : World} (h : Below w.heap.size w w') : Fr S w w' :=
  ⟨h.os, h.tape, h.output, h.size, fun k hk _ => h.block k hk, fun k i hk _ => cell_same (h.block k hk) i, fun k i hk => frozen_same (h.block k hk) i⟩
theorem Fr.refl (S : List (Nat × Nat)) (w : World) : Fr S w w := .of_below (Below.refl _ w)
theorem Fr.trans {S : List (Nat × Nat)} {u v w : World} (h : Fr S u v) (g : Fr S v w) : Fr S u w :=
  ⟨g.os.trans h.os, g.tape.trans h.tape, g.output.trans h.output, Nat.le_trans h.size g.size, fun k hk hs => (g.blk k (Nat.lt_of_lt_of_le hk h.size) hs).trans (h.blk k hk hs), fun k i hk hs => (g.cel k i (Nat.lt_of_lt_of_le hk h.size) hs).trans (h.cel k i hk hs), fun k i hk => (g.frz k i (Nat.lt_of_lt_of_le hk h.size)).trans (h.frz k i hk)⟩
theorem Fr.mono {S S' : List (Nat × Nat)} {u v : World} (h : Fr S u v) (hs : ∀ p ∈ S, p ∈ S') : Fr S' u v :=
  ⟨h.os, h.tape, h.output, h.size, fun k hk n => h.blk k hk fun i hi => n i (hs _ hi), fun k i hk n => h.cel k i hk fun hi => n (hs _ hi), h.frz⟩
theorem Fr.nil_below {w w' : World} (h : Fr [] w w') : Below w.heap.size w w' := ⟨h.os, h.tape, h.output, h.size, fun k hk => h.blk k hk (by simp)⟩
theorem Fr.below {S : List (Nat × Nat)} {B : Nat} {u w w' : World} (g : Below B u w) (h : Fr S w w') (hB : B ≤ w.heap.size) (hs : ∀ p ∈ S, B ≤ p.1) : Below B u w' :=
  ⟨h.os.trans g.os, h.tape.trans g.tape, h.output.trans g.output, Nat.le_trans g.size h.size, fun k hk => (h.blk k (by omega) fun i hi => by have := hs _ hi; simp at this; omega).trans (g.block k hk)⟩
theorem cell_setOther {W : World} {b i : Nat} {v : Value} {k j : Nat} (h : (k, j) ≠ (b, i)) : (W.setCell ⟨b, i, none⟩ v).cell? ⟨k, j, none⟩ = W.cell? ⟨k, j, none⟩ := by
  by_cases hk : k = b
  · subst hk
    have hj : j ≠ i := fun e => h (by rw [e])
    simp only [World.cell?, World.setCell, Array.getElem?_modify, if_true]
    cases W.heap[k]? with
    | none => rfl
    | some o => cases o <;> simp [Ne.symm hj]
  · exact cell_same (Below.heap_setCell _ _ _ _ hk) j
theorem frozen_set {W : World} {b i : Nat} {v : Value} {k j : Nat} : (W.setCell ⟨b, i, none⟩ v).frozen? ⟨k, j, none⟩ = W.frozen? ⟨k, j, none⟩ := by
  by_cases hk : k = b
  · subst hk
    simp only [World.frozen?, World.setCell, Array.getElem?_modify, if_true]
    cases W.heap[k]? with
    | none => rfl
    | some o => cases o <;> simp
  · exact frozen_same (Below.heap_setCell _ _ _ _ hk) j
theorem Fr.set {S : List (Nat × Nat)} {u w : World} (h : Fr S u w) {b i : Nat} (hp : (b, i) ∈ S) (v : Value) : Fr S u (w.setCell ⟨b, i, none⟩ v) :=
  h.trans ⟨rfl, rfl, rfl, by simp [World.setCell], fun k _ hs => Below.heap_setCell _ _ _ _ (fun e => hs i (by rw [e]; exact hp)), fun k j _ hs => cell_setOther (fun e => hs (by rw [e]; exact hp)), fun _ _ _ => frozen_set⟩
theorem Fr.setNew {S : List (Nat × Nat)} {u w : World} (h : Fr S u w) {b i : Nat} (hp : u.heap.size ≤ b) (v : Value) : Fr S u (w.setCell ⟨b, i, none⟩ v) := by
  have hb : ∀ k, k < u.heap.size → (w.setCell ⟨b, i, none⟩ v).heap[k]? = w.heap[k]? := fun k hk => Below.heap_setCell _ _ _ _ (by simp; omega)
  exact ⟨h.os, h.tape, h.output, by have := h.size; simp [World.setCell]; omega, fun k hk hs => (hb k hk).trans (h.blk k hk hs), fun k j hk hs => (cell_same (hb k hk) j).trans (h.cel k j hk hs), fun k j hk => (frozen_same (hb k hk) j).trans (h.frz k j hk)⟩
theorem Fr.alloc {S : List (Nat × Nat)} {u w : World} (h : Fr S u w) (o : Obj) : Fr S u (w.alloc o) :=
  h.trans (.of_below ((Below.refl _ w).alloc (Nat.le_refl _) o))
theorem Fr.drew {S : List (Nat × Nat)} {u w : World} (h : Fr S u w) : Fr S u w.drew := ⟨h.os, h.tape, h.output, h.size, h.blk, h.cel, h.frz⟩
theorem Fr.dn {S : List (Nat × Nat)} {u w : World} (h : Fr S u w) (m : Nat) : Fr S u (w.drewN m) := ⟨h.os, h.tape, h.output, h.size, h.blk, h.cel, h.frz⟩
theorem Fr.belowB {S : List (Nat × Nat)} {u v w : World} (h : Fr S u v) (g : Below v.heap.size v w) : Fr S u w := h.trans (.of_below g)

/-- A node of a chain: a key's entry, or the head that is no key. -/
structure E where
  blk : Nat
  off : Nat
  key : ByteArray
  val : Int
abbrev E.adr (x : E) : Addr := ⟨x.blk, x.off, none⟩
def nx : List E → Value
  | [] => .pointer none
  | x :: _ => .pointer (some ⟨x.blk, x.off, none⟩)
structure Node (W : World) (x : E) (v : Value) : Prop where
  m3 : x.off % 3 = 0
  k0 : W.cell? ⟨x.blk, x.off, none⟩ = some (.string x.key)
  k1 : W.cell? ⟨x.blk, x.off + 1, none⟩ = some (.int .i64 x.val)
  k2 : W.cell? ⟨x.blk, x.off + 2, none⟩ = some v
  fz : W.frozen? ⟨x.blk, x.off + 2, none⟩ = false
/-- Nodes, each of which points to the one behind it, the last to none. -/
def Path (W : World) : List E → Prop
  | [] => True
  | x :: l => Node W x (nx l) ∧ Path W l

theorem Node.lt {W : World} {x : E} {v : Value} (h : Node W x v) : x.blk < W.heap.size := lt_of_cell h.k0
theorem Node.fr {S : List (Nat × Nat)} {W W' : World} {x : E} {v : Value} (h : Node W x v) (g : Fr S W W') (hs : ∀ j, j < 3 → (x.blk, x.off + j) ∉ S) : Node W' x v := by
  have hl := h.lt
  exact ⟨h.m3, (g.cel _ _ hl (hs 0 (by omega))).trans h.k0, (g.cel _ _ hl (hs 1 (by omega))).trans h.k1, (g.cel _ _ hl (hs 2 (by omega))).trans h.k2, (g.frz _ _ hl).trans h.fz⟩
theorem Path.fr {S : List (Nat × Nat)} {W W' : World} : {l : List E} → Path W l → Fr S W W' → (∀ x ∈ l, ∀ j, j < 3 → (x.blk, x.off + j) ∉ S) → Path W' l
  | [], _, _, _ => trivial
  | x :: _, h, g, hs => ⟨h.1.fr g (hs x (by simp)), Path.fr h.2 g fun y hy => hs y (by simp [hy])⟩
theorem Path.below {W W' : World} {l : List E} (h : Path W l) (g : Below W.heap.size W W') : Path W' l := h.fr (S := []) (.of_below g) (by simp)
theorem Path.mem {W : World} : {l : List E} → Path W l → ∀ x ∈ l, ∃ v, Node W x v
  | y :: l, h, x, hx => by
    rcases List.mem_cons.1 hx with rfl | hx
    · exact ⟨_, h.1⟩
    · exact Path.mem h.2 x hx
theorem Path.append {W : World} : {a b : List E} → Path W (a ++ b) → Path W b
  | [], _, h => h
  | _ :: a, _, h => Path.append (a := a) h.2
/-- The same place. -/
def E.at_ (x y : E) : Prop := x.blk = y.blk ∧ x.off = y.off
theorem nx_append {a b c : List E} (h : a ≠ []) : nx (a ++ b) = nx (a ++ c) := by
  cases a with
  | nil => exact absurd rfl h
  | cons x l => rfl

/-- A look: its block. -/
structure Lk (W : World) (b : Nat) (key : ByteArray) (x : E) (st : Int) (ov fd : Bool) (v : Int) : Prop where
  hb : W.heap[b]? = some (.cells #[.string key, .pointer (some ⟨x.blk, x.off, none⟩), .int .i64 st, .bool ov, .bool fd, .int .i64 v] 64)
theorem Lk.cells {W : World} {b : Nat} {key : ByteArray} {x : E} {st : Int} {ov fd : Bool} {v : Int} (h : Lk W b key x st ov fd v) :
    W.cell? ⟨b, 0, none⟩ = some (.string key) ∧ W.cell? ⟨b, 1, none⟩ = some (.pointer (some ⟨x.blk, x.off, none⟩)) ∧ W.cell? ⟨b, 2, none⟩ = some (.int .i64 st) ∧ W.cell? ⟨b, 3, none⟩ = some (.bool ov) ∧ W.cell? ⟨b, 4, none⟩ = some (.bool fd) ∧ W.cell? ⟨b, 5, none⟩ = some (.int .i64 v) ∧ ∀ i, W.frozen? ⟨b, i, none⟩ = false := by
  refine ⟨?_, ?_, ?_, ?_, ?_, ?_, frozen_of h.hb⟩ <;> rw [cell_of h.hb] <;> rfl
theorem Lk.lt {W : World} {b : Nat} {key : ByteArray} {x : E} {st : Int} {ov fd : Bool} {v : Int} (h : Lk W b key x st ov fd v) : b < W.heap.size := lt_of_heap h.hb
theorem Lk.fr {S : List (Nat × Nat)} {W W' : World} {b : Nat} {key : ByteArray} {x : E} {st : Int} {ov fd : Bool} {v : Int} (h : Lk W b key x st ov fd v) (g : Fr S W W') (hs : ∀ i, (b, i) ∉ S) : Lk W' b key x st ov fd v := ⟨(g.blk b h.lt hs).trans h.hb⟩
theorem Lk.below {W W' : World} {b : Nat} {key : ByteArray} {x : E} {st : Int} {ov fd : Bool} {v : Int} (h : Lk W b key x st ov fd v) (g : Below W.heap.size W W') : Lk W' b key x st ov fd v := ⟨(g.block b h.lt).trans h.hb⟩

set_option maxHeartbeats 400000 in
theorem found_any (b : Nat) (key : ByteArray) (x : E) (st : Int) (ov fd : Bool) (v : Int) (w : World) (h : Lk w b key x st ov fd v) :
    Calls Try.prog 13 #[.pointer (some ⟨b, 0, none⟩)] w fun e w' => e = .returned (.tuple #[.int .i64 v, .bool fd]) ∧ Below w.heap.size w w' := by
  obtain ⟨h0, h1, h2, h3, h4, h5, hf⟩ := h.cells
  clear h h1 h2 h3 hf
  go_enter Try.func13, Try.ntmps13
  go_wp2_with fail
  go_quiet (fail)
  go_wp2
  go_ret2
  exact ⟨rfl, below_dn (Below.refl _ w) _⟩
set_option maxHeartbeats 400000 in
theorem steps_any (b : Nat) (key : ByteArray) (x : E) (st : Int) (ov fd : Bool) (v : Int) (w : World) (h : Lk w b key x st ov fd v) :
    Calls Try.prog 29 #[.pointer (some ⟨b, 0, none⟩)] w fun e w' => e = .returned (.int .i64 st) ∧ w' = w := by
  obtain ⟨h0, h1, h2, h3, h4, h5, hf⟩ := h.cells
  clear h h1 h3 h4 h5 hf
  go_enter Try.func29, Try.ntmps29
  go_wp2
  go_ret
  exact ⟨rfl, rfl⟩

def mix (z : Int) (b : UInt8) : Int := bits BinOp.xor IntKind.u32 z ((b.toNat : Int) % 4294967296) * 16777619 % 4294967296
def hashL (l : List UInt8) : Int := l.foldl mix 2166136261
def hash (s : ByteArray) : Int := hashL s.data.toList
theorem hashL_range (l : List UInt8) : 0 ≤ hashL l ∧ hashL l < 4294967296 := by
  suffices h : ∀ (l : List UInt8) (z : Int), 0 ≤ z ∧ z < 4294967296 → 0 ≤ l.foldl mix z ∧ l.foldl mix z < 4294967296 from h l _ (by omega)
  intro l
  induction l with
  | nil => intro z hz; exact hz
  | cons b l ih => intro z _; exact ih _ (by simp only [mix]; omega)
theorem hash_range (s : ByteArray) : 0 ≤ hash s ∧ hash s < 4294967296 := hashL_range _
theorem mix_step (s : ByteArray) (k : Nat) (h : k < s.size) : hashL (s.data.toList.take (k + 1)) = bits BinOp.xor IntKind.u32 (hashL (s.data.toList.take k)) ((s[k].toNat : Int) % 4294967296) * 16777619 % 4294967296 := by
  have h2 : k < s.data.toList.length := by simpa using h
  have e : s[k] = s.data.toList[k] := rfl
  rw [e, List.take_add_one, List.getElem?_eq_getElem h2]
  simp [hashL, List.foldl_append, mix]
theorem take_size (s : ByteArray) (k : Nat) (h : ¬ k < s.size) : hashL (s.data.toList.take k) = hash s := by
  rw [hash, List.take_of_length_le]
  have : s.size = s.data.toList.length := by simp
  omega
theorem wrap_nat (k : Nat) (h : k < 9223372036854775807) : wrap64 ((k : Int) + 1) = ((k + 1 : Nat) : Int) := by
  simp only [wrap64]; omega

set_option maxHeartbeats 400000 in
theorem hash_any (s : ByteArray) (hs : s.size ≤ 9223372036854775807) (w : World) : Calls Try.prog 17 #[.string s] w fun e w' => e = .returned (.int .u32 (hash s)) ∧ w' = w := by
  go_enter Try.func17, Try.ntmps17
  go_wp2_with fail
  go_loopw [3, 7] (fun h i wr => ∃ (k : Nat), k ≤ s.size ∧ i = .int .i64 (k : Int) ∧ h = .int .u32 (hashL (s.data.toList.take k)) ∧ wr = w) (fun h i _ => match i with | .int _ x => s.size - x.toNat | _ => 0)
  case atStart => exact ⟨0, by omega, rfl, rfl, rfl⟩
  case round =>
    obtain ⟨k, hk, rfl, rfl, rfl⟩ := hrel
    by_cases hk2 : k < s.size
    · have q : (k : Int) < (s.size : Int) := by omega
      have m := hide (mix_step s k hk2)
      generalize hashL (s.data.toList.take k) = z at *
      go_wp2
      exact ⟨⟨k + 1, by omega, rfl, by rw [unhide m], trivial⟩, by simp; omega⟩
    · have q : ¬ (k : Int) < (s.size : Int) := by omega
      have m := hide (take_size s k hk2)
      generalize hashL (s.data.toList.take k) = z at *
      go_wp2
      go_ret
      have m := unhide m
      subst m
      exact ⟨rfl, rfl⟩
set_option maxHeartbeats 400000 in
theorem rhash_any (s : ByteArray) (hs : s.size ≤ 9223372036854775807) (w : World) : Calls Try.prog 18 #[.string s] w fun e w' => e = .returned (.int .u32 (hash s)) ∧ w' = w := by
  go_enter Try.func18, Try.ntmps18
  go_wp2_with fail
  go_loopw [3, 4] (fun h i wr => ∃ (k : Nat), k ≤ s.size ∧ i = .int .i64 (k : Int) ∧ h = .int .u32 (hashL (s.data.toList.take k)) ∧ wr = w) (fun h i _ => match i with | .int _ x => s.size - x.toNat | _ => 0)
  case atStart => exact ⟨0, by omega, rfl, rfl, rfl⟩
  case round =>
    obtain ⟨k, hk, rfl, rfl, rfl⟩ := hrel
    by_cases hk2 : k < s.size
    · have q : (k : Int) < (s.size : Int) := by omega
      have m := hide (mix_step s k hk2)
      generalize hashL (s.data.toList.take k) = z at *
      go_wp2
      exact ⟨⟨k + 1, by omega, rfl, by rw [unhide m], trivial⟩, by simp; omega⟩
    · have q : ¬ (k : Int) < (s.size : Int) := by omega
      have m := hide (take_size s k hk2)
      generalize hashL (s.data.toList.take k) = z at *
      go_wp2
      go_ret
      have m := unhide m
      subst m
      exact ⟨rfl, rfl⟩
end Go.Proofs.Ytbmcnfdciogmjaa
