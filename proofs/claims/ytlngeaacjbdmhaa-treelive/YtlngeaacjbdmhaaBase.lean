/-
  Maps by numbers, whatever they hold; frames that name the blocks which a call may have changed.
-/
import Derived.Test.YtlngeaacjbdmhaaRows
import Derived.WalkKit
import Derived.WalkSpells
import Derived.Deep.RegionHeld3
import Derived.Deep.DrawnRows
import Derived.Deep.QuietTactic
import Derived.BigQuiet
import Derived.Deep.OwnRows
import Derived.Laws.CopyOwn
import Derived.ArgAppend
import Derived.Maps.RangeWalk
import Derived.Deep.WholeRow
import Derived.Deep.MidRow
namespace Go.Proofs.Ytlngeaacjbdmhaa
open Go.RowKit Go.Maps

abbrev I (n : Int) : Value := .int .i64 n
abbrev U (n : Int) : Value := .int .u8 n
theorem hide {p : Prop} (h : p) : Hid p := h
theorem unhide {p : Prop} (h : Hid p) : p := h
theorem lt_of_heap {W : World} {k : Nat} {o : Obj} (e : W.heap[k]? = some o) : k < W.heap.size := (Array.getElem?_eq_some_iff.1 e).1
theorem cell_of {W : World} {b : Nat} {cs : Array Value} {t : TypeId} {f : Nat × Nat} (h : W.heap[b]? = some (.cells cs t f)) (i : Nat) : W.cell? ⟨b, i, none⟩ = cs[i]? := by
  simp [World.cell?, h]
theorem frozen_of {W : World} {b : Nat} {cs : Array Value} {t : TypeId} (h : W.heap[b]? = some (.cells cs t)) (i : Nat) : W.frozen? ⟨b, i, none⟩ = false := by
  simp [World.frozen?, h]
theorem heap_set {W : World} {b : Nat} {cs : Array Value} {t : TypeId} {f : Nat × Nat} (h : W.heap[b]? = some (.cells cs t f)) (i : Nat) (v : Value) :
    (W.setCell ⟨b, i, none⟩ v).heap[b]? = some (.cells (cs.setIfInBounds i v) t f) := by
  obtain ⟨hl, he⟩ := Array.getElem?_eq_some_iff.1 h
  simp [World.setCell, Array.getElem?_modify, h]

/-- But for the blocks that S names, all that lay lies as it lay. -/
structure Fr (S : List Nat) (w w' : World) : Prop where
  os : w'.os = w.os
  tape : w'.tape = w.tape
  output : w'.output = w.output
  size : w.heap.size ≤ w'.heap.size
  blk : ∀ k, k < w.heap.size → k ∉ S → w'.heap[k]? = w.heap[k]?
theorem Fr.of_below {S : List Nat} {w w' : World} (h : Below w.heap.size w w') : Fr S w w' := ⟨h.os, h.tape, h.output, h.size, fun k hk _ => h.block k hk⟩
theorem Fr.refl (S : List Nat) (w : World) : Fr S w w := .of_below (Below.refl _ w)
theorem Fr.trans {S : List Nat} {u v w : World} (h : Fr S u v) (g : Fr S v w) : Fr S u w :=
  ⟨g.os.trans h.os, g.tape.trans h.tape, g.output.trans h.output, Nat.le_trans h.size g.size, fun k hk hs => (g.blk k (Nat.lt_of_lt_of_le hk h.size) hs).trans (h.blk k hk hs)⟩
theorem Fr.mono {S S' : List Nat} {u v : World} (h : Fr S u v) (hs : ∀ p ∈ S, p ∈ S') : Fr S' u v :=
  ⟨h.os, h.tape, h.output, h.size, fun k hk n => h.blk k hk fun hi => n (hs _ hi)⟩
/-- Blocks that were new ahead need not be named. -/
theorem Fr.step {S T : List Nat} {u v w : World} (h : Fr S u v) (g : Fr T v w) (hs : ∀ p ∈ T, p ∈ S ∨ u.heap.size ≤ p) : Fr S u w :=
  ⟨g.os.trans h.os, g.tape.trans h.tape, g.output.trans h.output, Nat.le_trans h.size g.size, fun k hk n => (g.blk k (Nat.lt_of_lt_of_le hk h.size) fun hi => (hs k hi).elim n fun h' => by omega).trans (h.blk k hk n)⟩
theorem Fr.below {w w' : World} (h : Fr [] w w') : Below w.heap.size w w' := ⟨h.os, h.tape, h.output, h.size, fun k hk => h.blk k hk (by simp)⟩
theorem Fr.base {S : List Nat} {B : Nat} {w w' : World} (h : Fr S w w') (hB : B ≤ w.heap.size) (hs : ∀ p ∈ S, B ≤ p) : Below B w w' :=
  ⟨h.os, h.tape, h.output, h.size, fun k hk => h.blk k (by omega) fun hi => by have := hs k hi; omega⟩
theorem Fr.grown {S : List Nat} {u w w' : World} (h : Fr S u w) {r : Option Nat} (g : w.grownBy w' r) (hr : ∀ b, r = some b → b ∈ S ∨ u.heap.size ≤ b) : Fr S u w' :=
  ⟨g.os.trans h.os, g.tape.trans h.tape, g.output.trans h.output, Nat.le_trans h.size g.size, fun k hk n => (g.block k (Nat.lt_of_lt_of_le hk h.size) fun e => (hr k e.symm).elim n fun h' => by omega).trans (h.blk k hk n)⟩
theorem Fr.set {S : List Nat} {u w : World} (h : Fr S u w) {a : Addr} (hp : a.block ∈ S ∨ u.heap.size ≤ a.block) (v : Value) : Fr S u (w.setCell a v) :=
  ⟨h.os, h.tape, h.output, by have := h.size; simp [World.setCell]; exact this, fun k hk n => (Below.heap_setCell _ _ _ _ (fun e => hp.elim (fun hp => n (by rw [show k = a.block from e]; exact hp)) fun hp => by rw [show k = a.block from e] at hk; omega)).trans (h.blk k hk n)⟩
theorem Fr.alloc {S : List Nat} {u w : World} (h : Fr S u w) (o : Obj) : Fr S u (w.alloc o) := h.trans (.of_below ((Below.refl _ w).alloc (Nat.le_refl _) o))
theorem Fr.drew {S : List Nat} {u w : World} (h : Fr S u w) : Fr S u w.drew := ⟨h.os, h.tape, h.output, h.size, h.blk⟩
theorem Fr.dn {S : List Nat} {u w : World} (h : Fr S u w) (m : Nat) : Fr S u (w.drewN m) := ⟨h.os, h.tape, h.output, h.size, h.blk⟩
theorem below_drew {B : Nat} {u w : World} (h : Below B u w) : Below B u w.drew := ⟨h.os, h.tape, h.output, h.size, h.block⟩
theorem below_dn {B : Nat} {u w : World} (h : Below B u w) (m : Nat) : Below B u (w.drewN m) := ⟨h.os, h.tape, h.output, h.size, h.block⟩

/-! ### Maps by numbers -/
/-- Any value is read as itself. -/
def hE (v : Value) : Option (DataW Value × List MemPlace) := some (.held v, [])
theorem law : Keyed Try.prog 3 := int_keyed Try.underlying3
abbrev kl (k : Int) : Lit := .int .i64 k
theorem wf_of {k : Int} (h : -9223372036854775808 ≤ k ∧ k ≤ 9223372036854775807) : (kl k).wf = true := WalkArith.wf_i64 h
theorem key_of {k : Int} (h : (kl k).wf = true) : keyOf Try.prog 3 (I k) = some (kl k) := keyOf_int_mk Try.underlying3 h
theorem isKey (k : Int) : WideAt.IsKeyLit (kl k) := trivial
theorem kl_ne {a b : Int} (h : a ≠ b) : kl a ≠ kl b := fun e => h (by injection e)
/-- What a datum holds at each number. -/
def Holds (D : DataW Value) (f : Int → Option Value) : Prop :=
  ∀ k, (kl k).wf = true → Maps.has D (kl k) = (f k).isSome ∧ ∀ v, f k = some v → ∀ zd, D.atKey (kl k) zd = .held v
/-- Block b is a map of n entries at most, which holds f. -/
def Mp (W : World) (b n : Nat) (f : Int → Option Value) : Prop := ∃ D, W.ownsMap Try.prog 3 hE b n D ∧ Holds D f
def upd (f : Int → Option Value) (k : Int) (v : Option Value) : Int → Option Value := fun j => if j = k then v else f j
section
variable {W W' : World} {b n : Nat} {f : Int → Option Value}
theorem Mp.lt (h : Mp W b n f) : b < W.heap.size := let ⟨_, h, _⟩ := h; h.lt
theorem Mp.same (h : Mp W b n f) (g : W'.heap[b]? = W.heap[b]?) : Mp W' b n f := by
  obtain ⟨D, ⟨es, c, h1, h2⟩, h3⟩ := h
  exact ⟨D, ⟨es, c, g.trans h1, h2⟩, h3⟩
theorem Mp.fr {S : List Nat} (h : Mp W b n f) (g : Fr S W W') (hs : b ∉ S) : Mp W' b n f := h.same (g.blk b h.lt hs)
theorem Mp.below (h : Mp W b n f) (g : Below W.heap.size W W') : Mp W' b n f := h.same (g.block b h.lt)
theorem Mp.alloc (h : Mp W b n f) (o : Obj) : Mp (W.alloc o) b n f := let ⟨D, h1, h2⟩ := h; ⟨D, h1.alloc o, h2⟩
theorem Mp.congr (h : Mp W b n f) {g : Int → Option Value} (e : ∀ k, f k = g k) : Mp W b n g := by
  obtain rfl : f = g := funext e
  exact h
theorem Mp.made (W : World) : Mp (W.alloc (.map #[] 0)) W.heap.size 0 (fun _ => none) :=
  ⟨_, World.ownsMap_made W Try.prog 3 hE, fun k _ => ⟨rfl, fun v h => by cases h⟩⟩
theorem Mp.mono (h : Mp W b n f) {m : Nat} (hm : n ≤ m) : Mp W b m f := let ⟨D, h1, h2⟩ := h; ⟨D, h1.mono hm, h2⟩
theorem Mp.look_ok (h : Mp W b n f) {t e : TypeId} (ht : Try.prog.underlying t = some (.map 3 e)) {z : Value} (hz : (zeroValue e).run Try.prog W = .ok z W) {k : Int} (hk : (kl k).wf = true) :
    (Instr.lookup t (.map (some b)) (I k) true).run Try.prog W = .ok (.tuple #[(f k).getD z, .bool (f k).isSome]) W := by
  obtain ⟨D, h1, h2⟩ := h
  obtain ⟨v, ps, hr, hv⟩ := h1.look_ok law ht hz (zd := .held z) (zp := []) rfl (key_of hk)
  rw [hr, (h2 k hk).1]
  cases e : f k with
  | none =>
    rw [atKey_of_not_has (by rw [(h2 k hk).1, e]; rfl)] at hv
    simp [hE] at hv
    simp [hv.1]
  | some x =>
    rw [(h2 k hk).2 x e] at hv
    simp [hE] at hv
    simp [hv.1]
theorem Mp.look (h : Mp W b n f) {t e : TypeId} (ht : Try.prog.underlying t = some (.map 3 e)) {z : Value} (hz : (zeroValue e).run Try.prog W = .ok z W) {k : Int} (hk : (kl k).wf = true) :
    (Instr.lookup t (.map (some b)) (I k) false).run Try.prog W = .ok ((f k).getD z) W := by
  obtain ⟨D, h1, h2⟩ := h
  obtain ⟨v, ps, hr, hv⟩ := h1.lookup law ht hz (zd := .held z) (zp := []) rfl (key_of hk)
  rw [hr]
  cases e : f k with
  | none =>
    rw [atKey_of_not_has (by rw [(h2 k hk).1, e]; rfl)] at hv
    simp [hE] at hv
    simp [hv.1]
  | some x =>
    rw [(h2 k hk).2 x e] at hv
    simp [hE] at hv
    simp [hv.1]
theorem Holds.put {D : DataW Value} (hD : IsMap D) (h : Holds D f) (k : Int) (v : Value) : Holds (D.put (kl k) (.held v)) (upd f k (some v)) := by
  intro j hj
  by_cases e : j = k
  · subst e
    refine ⟨?_, fun x hx zd => ?_⟩
    · rw [has_put_same hD (isKey j)]; simp [upd]
    · simp [upd] at hx
      rw [atKey_put_same hD (isKey j), hx]
  · refine ⟨?_, fun x hx zd => ?_⟩
    · rw [has_put_other (kl_ne e), (h j hj).1]; simp [upd, e]
    · simp [upd, e] at hx
      rw [atKey_put_other (kl_ne e)]
      exact (h j hj).2 x hx zd
theorem Holds.del {D : DataW Value} (h : Holds D f) (k : Int) : Holds (D.del (kl k)) (upd f k none) := by
  intro j hj
  by_cases e : j = k
  · subst e
    exact ⟨by rw [has_del_same]; simp [upd], fun x hx => by simp [upd] at hx⟩
  · refine ⟨?_, fun x hx zd => ?_⟩
    · rw [has_del_other (kl_ne e), (h j hj).1]; simp [upd, e]
    · simp [upd, e] at hx
      rw [atKey_del_other (kl_ne e)]
      exact (h j hj).2 x hx zd
theorem Mp.store (h : Mp W b n f) {t e : TypeId} (ht : Try.prog.underlying t = some (.map 3 e)) (hn : n < maxLen) {k : Int} (hk : (kl k).wf = true) (v : Value) :
    ∃ W', (Instr.mapUpdate t (.map (some b)) (I k) v).run Try.prog W = .ok () W' ∧ Mp W' b (n + 1) (upd f k (some v)) ∧ Fr [b] W W' ∧ W'.heap.size = W.heap.size := by
  obtain ⟨D, h1, h2⟩ := h
  obtain ⟨W', hr, h3, h4⟩ := h1.store law ht hn (key_of hk) (val := v) (d := .held v) (ps := []) rfl
  refine ⟨W', hr, ⟨_, h3, h2.put h1.isMap k v⟩, (Fr.refl [b] W).grown h4.grown (by simp), ?_⟩
  obtain ⟨_, _, _, _, _, rfl⟩ := h4
  simp [ChangeMaps.setBlock]
theorem Mp.drop (h : Mp W b n f) {t e : TypeId} (ht : Try.prog.underlying t = some (.map 3 e)) {k : Int} (hk : (kl k).wf = true) (ty : TypeId) :
    ∃ W', (Builtin.delete_ #[t, 3] ty #[.map (some b), I k]).run Try.prog W = .ok (.tuple #[]) W' ∧ Mp W' b n (upd f k none) ∧ Fr [b] W W' ∧ W'.heap.size = W.heap.size := by
  obtain ⟨D, h1, h2⟩ := h
  obtain ⟨W', hr, h3, h4⟩ := h1.drop law ht (key_of hk) ty
  refine ⟨W', hr, ⟨_, h3, h2.del k⟩, (Fr.refl [b] W).grown h4.grown (by simp), ?_⟩
  obtain ⟨_, _, _, _, _, rfl⟩ := h4
  simp [ChangeMaps.setBlock]
end

/-! ### How many -/
/-- How many of the numbers below n are so. -/
def cnt (n : Nat) (p : Nat → Bool) : Nat := ((List.range n).filter p).length
theorem cnt_succ (n : Nat) (p : Nat → Bool) : cnt (n + 1) p = cnt n p + if p n then 1 else 0 := by
  simp only [cnt, List.range_succ, List.filter_append, List.length_append]
  cases h : p n <;> simp [h]
theorem cnt_le (n : Nat) (p : Nat → Bool) : cnt n p ≤ n := by
  have := List.length_filter_le p (List.range n)
  simpa [cnt] using this
theorem cnt_congr {n : Nat} {p q : Nat → Bool} (h : ∀ k, k < n → p k = q k) : cnt n p = cnt n q := by
  induction n with
  | zero => rfl
  | succ n ih => rw [cnt_succ, cnt_succ, ih fun k hk => h k (by omega), h n (by omega)]
theorem cnt_add {n : Nat} {p q r : Nat → Bool} (h : ∀ k, k < n → r k = (p k || q k)) (hd : ∀ k, k < n → (p k && q k) = false) : cnt n r = cnt n p + cnt n q := by
  induction n with
  | zero => rfl
  | succ n ih =>
    rw [cnt_succ, cnt_succ, cnt_succ, ih (fun k hk => h k (by omega)) (fun k hk => hd k (by omega)), h n (by omega)]
    have := hd n (by omega)
    cases hp : p n <;> cases hq : q n <;> simp_all <;> omega
theorem cnt_mono {n : Nat} {p q : Nat → Bool} (h : ∀ k, k < n → p k = true → q k = true) : cnt n p ≤ cnt n q := by
  induction n with
  | zero => exact Nat.le_refl _
  | succ n ih =>
    rw [cnt_succ, cnt_succ]
    have := ih fun k hk => h k (by omega)
    have := h n (by omega)
    cases hp : p n <;> cases hq : q n <;> simp_all <;> omega
/-- A list of numbers, each of them once, is as long as there are such numbers. -/
theorem length_cnt {n : Nat} {p : Nat → Bool} {l : List Nat} (hl : l.Nodup) (hm : ∀ k, k ∈ l ↔ k < n ∧ p k = true) : l.length = cnt n p := by
  have hp : l.Perm ((List.range n).filter p) := by
    refine (List.perm_ext_iff_of_nodup hl (List.nodup_range.filter _)).2 fun k => ?_
    rw [hm, List.mem_filter, List.mem_range]
  exact hp.length_eq
def litNat : Lit → Nat
  | .int _ k => k.toNat
  | _ => 0
/-- How many entries a map has whose keys are below n. -/
theorem size_cnt {W : World} {b m n : Nat} {D : DataW Value} {f : Int → Option Value} (h : W.ownsMap Try.prog 3 hE b m D) (hf : Holds D f) (hn : n < 1000) (hs : ∀ k, (kl k).wf = true → (f k).isSome = true → 0 ≤ k ∧ k < (n : Int)) :
    Maps.size D = cnt n (fun k => (f (k : Int)).isSome) := by
  obtain ⟨es, c, h1, F, h3, rfl⟩ := h
  have hap := Maps.fit_apart law F
  have hks : ∀ p ∈ es.toList.map (WideElems.rg Try.prog 3 hE), ∃ k, p.1 = kl k ∧ (kl k).wf = true := by
    intro p hp
    obtain ⟨v, hv⟩ := Maps.fit_keys F p hp
    obtain ⟨x, _, h2, h3⟩ := Maps.keyOf_int_inv Try.underlying3 hv
    exact ⟨x, h2, h3⟩
  have hhas : ∀ k, (kl k).wf = true → ((f k).isSome = true ↔ ∃ p ∈ es.toList.map (WideElems.rg Try.prog 3 hE), p.1 = kl k) := by
    intro k hk
    rw [← (hf k hk).1, Maps.has_eq, List.any_eq_true]
    constructor
    · rintro ⟨p, hp, hq⟩
      exact ⟨p, mem_sorted.1 hp, WideAt.sameKey_eq hq⟩
    · rintro ⟨p, hp, hq⟩
      exact ⟨p, mem_sorted.2 hp, by rw [hq]; exact WideAt.sameKey_self (isKey k)⟩
  rw [Maps.size_eq, length_sorted]
  rw [← length_cnt (l := (es.toList.map (WideElems.rg Try.prog 3 hE)).map fun p => litNat p.1)]
  · simp
  · refine List.pairwise_map.2 ?_
    refine hap.imp_of_mem fun {p q} hp hq hne he => ?_
    obtain ⟨k, e1, w1⟩ := hks p hp
    obtain ⟨j, e2, w2⟩ := hks q hq
    have g1 := hs k w1 ((hhas k w1).2 ⟨p, hp, e1⟩)
    have g2 := hs j w2 ((hhas j w2).2 ⟨q, hq, e2⟩)
    rw [e1, e2] at he hne
    simp [litNat] at he
    exact hne (by rw [show k = j by omega])
  · intro k
    rw [List.mem_map]
    constructor
    · rintro ⟨p, hp, e⟩
      obtain ⟨j, e1, w1⟩ := hks p hp
      have g0 := (hhas j w1).2 ⟨p, hp, e1⟩
      have g1 := hs j w1 g0
      rw [e1] at e
      simp [litNat] at e
      have : (k : Int) = j := by omega
      exact ⟨by omega, by rw [this]; exact g0⟩
    · rintro ⟨hk, hf'⟩
      obtain ⟨p, hp, e⟩ := (hhas (k : Int) (wf_of (by omega))).1 hf'
      exact ⟨p, hp, by rw [e]; simp [litNat]⟩
theorem Mp.len {W : World} {b m n : Nat} {f : Int → Option Value} (h : Mp W b m f) {t e : TypeId} (ht : Try.prog.underlying t = some (.map 3 e)) (hn : n < 1000) (hs : ∀ k, (kl k).wf = true → (f k).isSome = true → 0 ≤ k ∧ k < (n : Int)) (ty : TypeId) :
    (Builtin.len_ #[t] ty #[.map (some b)]).run Try.prog W = .ok (I (cnt n (fun k => (f (k : Int)).isSome))) W := by
  obtain ⟨D, h1, h2⟩ := h
  rw [h1.len ht ty, size_cnt h1 h2 hn hs]
theorem Mp.tight {W : World} {b m n : Nat} {f : Int → Option Value} (h : Mp W b m f) (hn : n < 1000) (hs : ∀ k, (kl k).wf = true → (f k).isSome = true → 0 ≤ k ∧ k < (n : Int)) : Mp W b n f := by
  obtain ⟨D, h1, h2⟩ := h
  have hc := size_cnt h1 h2 hn hs
  obtain ⟨es, c, g1, F, g3, rfl⟩ := h1
  rw [Maps.size_eq, length_sorted] at hc
  refine ⟨_, ⟨es, c, g1, F, ?_, rfl⟩, h2⟩
  have := cnt_le n (fun k => (f (k : Int)).isSome)
  simp at hc
  omega
end Go.Proofs.Ytlngeaacjbdmhaa
