/-
  Maps by numbers, whatever they hold; frames that name the blocks which a call may have changed.
-/
import Derived.Test.YtlngeaacjbdmhaaGreatRows
import Derived.WalkKit
import Derived.WalkSpells
import Derived.Deep.RegionHeld3
import Derived.Deep.DrawnRows
import Derived.Deep.QuietTactic
import Derived.BigQuiet
import Derived.Deep.OwnRows
import Derived.Laws.CopyOwn
import Derived.ArgAppend
import Derived.Maps.RangeWalk
import Derived.Deep.WholeRow
import Derived.Deep.MidRow
namespace Go.Proofs.YtlngeaacjbdmhaaGreat
open Go.RowKit Go.Maps
abbrev I (n : Int) : Value := .int .i64 n
abbrev U (n : Int) : Value := .int .u8 n
theorem hide {p : Prop} (h : p) : Hid p := h
theorem unhide {p : Prop} (h : Hid p) : p := h
theorem lt_of_heap {W : World} {k : Nat} {o : Obj} (e : W.heap[k]? = some o) : k < W.heap.size := (Array.getElem?_eq_some_iff.1 e).1
theorem cell_of {W : World} {b : Nat} {cs : Array Value} {t : TypeId} {f : Nat × Nat} (h : W.heap[b]? = some (.cells cs t f)) (i : Nat) : W.cell? ⟨b, i, none⟩ = cs[i]? := by
  simp [World.cell?, h]
theorem frozen_of {W : World} {b : Nat} {cs : Array Value} {t : TypeId} (h : W.heap[b]? = some (.cells cs t)) (i : Nat) : W.frozen? ⟨b, i, none⟩ = false := by
  simp [World.frozen?, h]
theorem heap_set {W : World} {b : Nat} {cs : Array Value} {t : TypeId} {f : Nat × Nat} (h : W.heap[b]? = some (.cells cs t f)) (i : Nat) (v : Value) :
    (W.setCell ⟨b, i, none⟩ v).heap[b]? = some (.cells (cs.setIfInBounds i v) t f) := by
  obtain ⟨hl, he⟩ := Array.getElem?_eq_some_iff.1 h
  simp [World.setCell, Array.getElem?_modify, h]
structure Fr (S : List Nat) (w w' : World) : Prop where
  os : w'.os = w.os
  tape : w'.tape = w.tape
  output : w'.output = w.output
  size : w.heap.size ≤ w'.heap.size
  blk : ∀ k, k < w.heap.size → k ∉ S → w'.heap[k]? = w.heap[k]?
theorem Fr.of_below {S : List Nat} {w w' : World} (h : Below w.heap.size w w') : Fr S w w' := ⟨h.os, h.tape, h.output, h.size, fun k hk _ => h.block k hk⟩
theorem Fr.refl (S : List Nat) (w : World) : Fr S w w := .of_below (Below.refl _ w)
theorem Fr.trans {S : List Nat} {u v w : World} (h : Fr S u v) (g : Fr S v w) : Fr S u w :=
  ⟨g.os.trans h.os, g.tape.trans h.tape, g.output.trans h.output, Nat.le_trans h.size g.size, fun k hk hs => (g.blk k (Nat.lt_of_lt_of_le hk h.size) hs).trans (h.blk k hk hs)⟩
theorem Fr.mono {S S' : List Nat} {u v : World} (h : Fr S u v) (hs : ∀ p ∈ S, p ∈ S') : Fr S' u v :=
  ⟨h.os, h.tape, h.output, h.size, fun k hk n => h.blk k hk fun hi => n (hs _ hi)⟩
theorem Fr.step {S T : List Nat} {u v w : World} (h : Fr S u v) (g : Fr T v w) (hs : ∀ p ∈ T, p ∈ S ∨ u.heap.size ≤ p) : Fr S u w :=
  ⟨g.os.trans h.os, g.tape.trans h.tape, g.output.trans h.output, Nat.le_trans h.size g.size, fun k hk n => (g.blk k (Nat.lt_of_lt_of_le hk h.size) fun hi => (hs k hi).elim n fun h' => by omega).trans (h.blk k hk n)⟩
theorem Fr.below {w w' : World} (h : Fr [] w w') : Below w.heap.size w w' := ⟨h.os, h.tape, h.output, h.size, fun k hk => h.blk k hk (by simp)⟩
theorem Fr.base {S : List Nat} {B : Nat} {w w' : World} (h : Fr S w w') (hB : B ≤ w.heap.size) (hs : ∀ p ∈ S, B ≤ p) : Below B w w' :=
  ⟨h.os, h.tape, h.output, h.size, fun k hk => h.blk k (by omega) fun hi => by have := hs k hi; omega⟩
theorem Fr.grown {S : List Nat} {u w w' : World} (h : Fr S u w) {r : Option Nat} (g : w.grownBy w' r) (hr : ∀ b, r = some b → b ∈ S ∨ u.heap.size ≤ b) : Fr S u w' :=
  ⟨g.os.trans h.os, g.tape.trans h.tape, g.output.trans h.output, Nat.le_trans h.size g.size, fun k hk n => (g.block k (Nat.lt_of_lt_of_le hk h.size) fun e => (hr k e.symm).elim n fun h' => by omega).trans (h.blk k hk n)⟩
theorem Fr.set {S : List Nat} {u w : World} (h : Fr S u w) {a : Addr} (hp : a.block ∈ S ∨ u.heap.size ≤ a.block) (v : Value) : Fr S u (w.setCell a v) :=
  ⟨h.os, h.tape, h.output, by have := h.size; simp [World.setCell]; exact this, fun k hk n => (Below.heap_setCell _ _ _ _ (fun e => hp.elim (fun hp => n (by rw [show k = a.block from e]; exact hp)) fun hp => by rw [show k = a.block from e] at hk; omega)).trans (h.blk k hk n)⟩
theorem Fr.alloc {S : List Nat} {u w : World} (h : Fr S u w) (o : Obj) : Fr S u (w.alloc o) := h.trans (.of_below ((Below.refl _ w).alloc (Nat.le_refl _) o))
theorem Fr.drew {S : List Nat} {u w : World} (h : Fr S u w) : Fr S u w.drew := ⟨h.os, h.tape, h.output, h.size, h.blk⟩
theorem Fr.dn {S : List Nat} {u w : World} (h : Fr S u w) (m : Nat) : Fr S u (w.drewN m) := ⟨h.os, h.tape, h.output, h.size, h.blk⟩
theorem below_drew {B : Nat} {u w : World} (h : Below B u w) : Below B u w.drew := ⟨h.os, h.tape, h.output, h.size, h.block⟩
theorem below_dn {B : Nat} {u w : World} (h : Below B u w) (m : Nat) : Below B u (w.drewN m) := ⟨h.os, h.tape, h.output, h.size, h.block⟩
/-! ### Maps by numbers -/
def hE (v : Value) : Option (DataW Value × List MemPlace) := some (.held v, [])
theorem law : Keyed Tryz.prog 3 := int_keyed Tryz.underlying3
abbrev kl (k : Int) : Lit := .int .i64 k
theorem wf_of {k : Int} (h : -9223372036854775808 ≤ k ∧ k ≤ 9223372036854775807) : (kl k).wf = true := WalkArith.wf_i64 h
theorem key_of {k : Int} (h : (kl k).wf = true) : keyOf Tryz.prog 3 (I k) = some (kl k) := keyOf_int_mk Tryz.underlying3 h
theorem isKey (k : Int) : WideAt.IsKeyLit (kl k) := trivial
theorem kl_ne {a b : Int} (h : a ≠ b) : kl a ≠ kl b := fun e => h (by injection e)
def Holds (D : DataW Value) (f : Int → Option Value) : Prop :=
  ∀ k, (kl k).wf = true → Maps.has D (kl k) = (f k).isSome ∧ ∀ v, f k = some v → ∀ zd, D.atKey (kl k) zd = .held v
def Mp (W : World) (b n : Nat) (f : Int → Option Value) : Prop := ∃ D, W.ownsMap Tryz.prog 3 hE b n D ∧ Holds D f
def upd (f : Int → Option Value) (k : Int) (v : Option Value) : Int → Option Value := fun j => if j = k then v else f j
section
variable {W W' : World} {b n : Nat} {f : Int → Option Value}
theorem Mp.lt (h : Mp W b n f) : b < W.heap.size := let ⟨_, h, _⟩ := h; h.lt
theorem Mp.same (h : Mp W b n f) (g : W'.heap[b]? = W.heap[b]?) : Mp W' b n f := by
  obtain ⟨D, ⟨es, c, h1, h2⟩, h3⟩ := h
  exact ⟨D, ⟨es, c, g.trans h1, h2⟩, h3⟩
theorem Mp.fr {S : List Nat} (h : Mp W b n f) (g : Fr S W W') (hs : b ∉ S) : Mp W' b n f := h.same (g.blk b h.lt hs)
theorem Mp.below (h : Mp W b n f) (g : Below W.heap.size W W') : Mp W' b n f := h.same (g.block b h.lt)
theorem Mp.alloc (h : Mp W b n f) (o : Obj) : Mp (W.alloc o) b n f := let ⟨D, h1, h2⟩ := h; ⟨D, h1.alloc o, h2⟩
theorem Mp.congr (h : Mp W b n f) {g : Int → Option Value} (e : ∀ k, f k = g k) : Mp W b n g := by
  obtain rfl : f = g := funext e
  exact h
theorem Mp.made (W : World) : Mp (W.alloc (.map #[] 0)) W.heap.size 0 (fun _ => none) :=
  ⟨_, World.ownsMap_made W Tryz.prog 3 hE, fun k _ => ⟨rfl, fun v h => by cases h⟩⟩
theorem Mp.mono (h : Mp W b n f) {m : Nat} (hm : n ≤ m) : Mp W b m f := let ⟨D, h1, h2⟩ := h; ⟨D, h1.mono hm, h2⟩
theorem Mp.look_ok (h : Mp W b n f) {t e : TypeId} (ht : Tryz.prog.underlying t = some (.map 3 e)) {z : Value} (hz : (zeroValue e).run Tryz.prog W = .ok z W) {k : Int} (hk : (kl k).wf = true) :
    (Instr.lookup t (.map (some b)) (I k) true).run Tryz.prog W = .ok (.tuple #[(f k).getD z, .bool (f k).isSome]) W := by
  obtain ⟨D, h1, h2⟩ := h
  obtain ⟨v, ps, hr, hv⟩ := h1.look_ok law ht hz (zd := .held z) (zp := []) rfl (key_of hk)
  rw [hr, (h2 k hk).1]
  cases e : f k with
  | none =>
    rw [atKey_of_not_has (by rw [(h2 k hk).1, e]; rfl)] at hv
    simp [hE] at hv
    simp [hv.1]
  | some x =>
    rw [(h2 k hk).2 x e] at hv
    simp [hE] at hv
    simp [hv.1]
theorem Mp.look (h : Mp W b n f) {t e : TypeId} (ht : Tryz.prog.underlying t = some (.map 3 e)) {z : Value} (hz : (zeroValue e).run Tryz.prog W = .ok z W) {k : Int} (hk : (kl k).wf = true) :
    (Instr.lookup t (.map (some b)) (I k) false).run Tryz.prog W = .ok ((f k).getD z) W := by
  obtain ⟨D, h1, h2⟩ := h
  obtain ⟨v, ps, hr, hv⟩ := h1.lookup law ht hz (zd := .held z) (zp := []) rfl (key_of hk)
  rw [hr]
  cases e : f k with
  | none =>
    rw [atKey_of_not_has (by rw [(h2 k hk).1, e]; rfl)] at hv
    simp [hE] at hv
    simp [hv.1]
  | some x =>
    rw [(h2 k hk).2 x e] at hv
    simp [hE] at hv
    simp [hv.1]
theorem Holds.put {D : DataW Value} (hD : IsMap D) (h : Holds D f) (k : Int) (v : Value) : Holds (D.put (kl k) (.held v)) (upd f k (some v)) := by
  intro j hj
  by_cases e : j = k
  · subst e
    refine ⟨?_, fun x hx zd => ?_⟩
    · rw [has_put_same hD (isKey j)]; simp [upd]
    · simp [upd] at hx
      rw [atKey_put_same hD (isKey j), hx]
  · refine ⟨?_, fun x hx zd => ?_⟩
    · rw [has_put_other (kl_ne e), (h j hj).1]; simp [upd, e]
    · simp [upd, e] at hx
      rw [atKey_put_other (kl_ne e)]
      exact (h j hj).2 x hx zd
theorem Holds.del {D : DataW Value} (h : Holds D f) (k : Int) : Holds (D.del (kl k)) (upd f k none) := by
  intro j hj
  by_cases e : j = k
  · subst e
    exact ⟨by rw [has_del_same]; simp [upd], fun x hx => by simp [upd] at hx⟩
  · refine ⟨?_, fun x hx zd => ?_⟩
    · rw [has_del_other (kl_ne e), (h j hj).1]; simp [upd, e]
    · simp [upd, e] at hx
      rw [atKey_del_other (kl_ne e)]
      exact (h j hj).2 x hx zd
theorem Mp.store (h : Mp W b n f) {t e : TypeId} (ht : Tryz.prog.underlying t = some (.map 3 e)) (hn : n < maxLen) {k : Int} (hk : (kl k).wf = true) (v : Value) :
    ∃ W', (Instr.mapUpdate t (.map (some b)) (I k) v).run Tryz.prog W = .ok () W' ∧ Mp W' b (n + 1) (upd f k (some v)) ∧ Fr [b] W W' ∧ W'.heap.size = W.heap.size := by
  obtain ⟨D, h1, h2⟩ := h
  obtain ⟨W', hr, h3, h4⟩ := h1.store law ht hn (key_of hk) (val := v) (d := .held v) (ps := []) rfl
  refine ⟨W', hr, ⟨_, h3, h2.put h1.isMap k v⟩, (Fr.refl [b] W).grown h4.grown (by simp), ?_⟩
  obtain ⟨_, _, _, _, _, rfl⟩ := h4
  simp [ChangeMaps.setBlock]
theorem Mp.drop (h : Mp W b n f) {t e : TypeId} (ht : Tryz.prog.underlying t = some (.map 3 e)) {k : Int} (hk : (kl k).wf = true) (ty : TypeId) :
    ∃ W', (Builtin.delete_ #[t, 3] ty #[.map (some b), I k]).run Tryz.prog W = .ok (.tuple #[]) W' ∧ Mp W' b n (upd f k none) ∧ Fr [b] W W' ∧ W'.heap.size = W.heap.size := by
  obtain ⟨D, h1, h2⟩ := h
  obtain ⟨W', hr, h3, h4⟩ := h1.drop law ht (key_of hk) ty
  refine ⟨W', hr, ⟨_, h3, h2.del k⟩, (Fr.refl [b] W).grown h4.grown (by simp), ?_⟩
  obtain ⟨_, _, _, _, _, rfl⟩ := h4
  simp [ChangeMaps.setBlock]
end
/-! ### How many -/
def cnt (n : Nat) (p : Nat → Bool) : Nat := ((List.range n).filter p).length
theorem cnt_succ (n : Nat) (p : Nat → Bool) : cnt (n + 1) p = cnt n p + if p n then 1 else 0 := by
  simp only [cnt, List.range_succ, List.filter_append, List.length_append]
  cases h : p n <;> simp [h]
theorem cnt_le (n : Nat) (p : Nat → Bool) : cnt n p ≤ n := by
  have := List.length_filter_le p (List.range n)
  simpa [cnt] using this
theorem cnt_congr {n : Nat} {p q : Nat → Bool} (h : ∀ k, k < n → p k = q k) : cnt n p = cnt n q := by
  induction n with
  | zero => rfl
  | succ n ih => rw [cnt_succ, cnt_succ, ih fun k hk => h k (by omega), h n (by omega)]
theorem cnt_add {n : Nat} {p q r : Nat → Bool} (h : ∀ k, k < n → r k = (p k || q k)) (hd : ∀ k, k < n → (p k && q k) = false) : cnt n r = cnt n p + cnt n q := by
  induction n with
  | zero => rfl
  | succ n ih =>
    rw [cnt_succ, cnt_succ, cnt_succ, ih (fun k hk => h k (by omega)) (fun k hk => hd k (by omega)), h n (by omega)]
    have := hd n (by omega)
    cases hp : p n <;> cases hq : q n <;> simp_all <;> omega
theorem cnt_mono {n : Nat} {p q : Nat → Bool} (h : ∀ k, k < n → p k = true → q k = true) : cnt n p ≤ cnt n q := by
  induction n with
  | zero => exact Nat.le_refl _
  | succ n ih =>
    rw [cnt_succ, cnt_succ]
    have := ih fun k hk => h k (by omega)
    have := h n (by omega)
    cases hp : p n <;> cases hq : q n <;> simp_all <;> omega
theorem length_cnt {n : Nat} {p : Nat → Bool} {l : List Nat} (hl : l.Nodup) (hm : ∀ k, k ∈ l ↔ k < n ∧ p k = true) : l.length = cnt n p := by
  have hp : l.Perm ((List.range n).filter p) := by
    refine (List.perm_ext_iff_of_nodup hl (List.nodup_range.filter _)).2 fun k => ?_
    rw [hm, List.mem_filter, List.mem_range]
  exact hp.length_eq
def litNat : Lit → Nat
  | .int _ k => k.toNat
  | _ => 0
theorem size_cnt {W : World} {b m n : Nat} {D : DataW Value} {f : Int → Option Value} (h : W.ownsMap Tryz.prog 3 hE b m D) (hf : Holds D f) (hn : n < 1000) (hs : ∀ k, (kl k).wf = true → (f k).isSome = true → 0 ≤ k ∧ k < (n : Int)) :
    Maps.size D = cnt n (fun k => (f (k : Int)).isSome) := by
  obtain ⟨es, c, h1, F, h3, rfl⟩ := h
  have hap := Maps.fit_apart law F
  have hks : ∀ p ∈ es.toList.map (WideElems.rg Tryz.prog 3 hE), ∃ k, p.1 = kl k ∧ (kl k).wf = true := by
    intro p hp
    obtain ⟨v, hv⟩ := Maps.fit_keys F p hp
    obtain ⟨x, _, h2, h3⟩ := Maps.keyOf_int_inv Tryz.underlying3 hv
    exact ⟨x, h2, h3⟩
  have hhas : ∀ k, (kl k).wf = true → ((f k).isSome = true ↔ ∃ p ∈ es.toList.map (WideElems.rg Tryz.prog 3 hE), p.1 = kl k) := by
    intro k hk
    rw [← (hf k hk).1, Maps.has_eq, List.any_eq_true]
    constructor
    · rintro ⟨p, hp, hq⟩
      exact ⟨p, mem_sorted.1 hp, WideAt.sameKey_eq hq⟩
    · rintro ⟨p, hp, hq⟩
      exact ⟨p, mem_sorted.2 hp, by rw [hq]; exact WideAt.sameKey_self (isKey k)⟩
  rw [Maps.size_eq, length_sorted]
  rw [← length_cnt (l := (es.toList.map (WideElems.rg Tryz.prog 3 hE)).map fun p => litNat p.1)]
  · simp
  · refine List.pairwise_map.2 ?_
    refine hap.imp_of_mem fun {p q} hp hq hne he => ?_
    obtain ⟨k, e1, w1⟩ := hks p hp
    obtain ⟨j, e2, w2⟩ := hks q hq
    have g1 := hs k w1 ((hhas k w1).2 ⟨p, hp, e1⟩)
    have g2 := hs j w2 ((hhas j w2).2 ⟨q, hq, e2⟩)
    rw [e1, e2] at he hne
    simp [litNat] at he
    exact hne (by rw [show k = j by omega])
  · intro k
    rw [List.mem_map]
    constructor
    · rintro ⟨p, hp, e⟩
      obtain ⟨j, e1, w1⟩ := hks p hp
      have g0 := (hhas j w1).2 ⟨p, hp, e1⟩
      have g1 := hs j w1 g0
      rw [e1] at e
      simp [litNat] at e
      have : (k : Int) = j := by omega
      exact ⟨by omega, by rw [this]; exact g0⟩
    · rintro ⟨hk, hf'⟩
      obtain ⟨p, hp, e⟩ := (hhas (k : Int) (wf_of (by omega))).1 hf'
      exact ⟨p, hp, by rw [e]; simp [litNat]⟩
theorem Mp.len {W : World} {b m n : Nat} {f : Int → Option Value} (h : Mp W b m f) {t e : TypeId} (ht : Tryz.prog.underlying t = some (.map 3 e)) (hn : n < 1000) (hs : ∀ k, (kl k).wf = true → (f k).isSome = true → 0 ≤ k ∧ k < (n : Int)) (ty : TypeId) :
    (Builtin.len_ #[t] ty #[.map (some b)]).run Tryz.prog W = .ok (I (cnt n (fun k => (f (k : Int)).isSome))) W := by
  obtain ⟨D, h1, h2⟩ := h
  rw [h1.len ht ty, size_cnt h1 h2 hn hs]
theorem Mp.tight {W : World} {b m n : Nat} {f : Int → Option Value} (h : Mp W b m f) (hn : n < 1000) (hs : ∀ k, (kl k).wf = true → (f k).isSome = true → 0 ≤ k ∧ k < (n : Int)) : Mp W b n f := by
  obtain ⟨D, h1, h2⟩ := h
  have hc := size_cnt h1 h2 hn hs
  obtain ⟨es, c, g1, F, g3, rfl⟩ := h1
  rw [Maps.size_eq, length_sorted] at hc
  refine ⟨_, ⟨es, c, g1, F, ?_, rfl⟩, h2⟩
  have := cnt_le n (fun k => (f (k : Int)).isSome)
  simp at hc
  omega
end Go.Proofs.YtlngeaacjbdmhaaGreat

namespace Go.Proofs.YtlngeaacjbdmhaaGreat
open Go.RowKit Go.Maps
def lst (f : Nat → Int) (a n : Nat) : List Value := (List.range n).map fun j => U (f (a + j))
theorem lst_length (f : Nat → Int) (a n : Nat) : (lst f a n).length = n := by simp [lst]
theorem lst_get (f : Nat → Int) (a n j : Nat) : (lst f a n)[j]? = if j < n then some (U (f (a + j))) else none := by
  simp only [lst, List.getElem?_map]
  by_cases h : j < n
  · simp [h]
  · simp [h]
theorem lst_get' {f : Nat → Int} {a n j : Nat} (h : j < n) : (lst f a n)[j]? = some (U (f (a + j))) := by rw [lst_get, if_pos h]
theorem lst_congr {f g : Nat → Int} {a b n : Nat} (h : ∀ j, j < n → f (a + j) = g (b + j)) : lst f a n = lst g b n := by
  apply List.ext_getElem?
  intro j
  rw [lst_get, lst_get]
  by_cases hj : j < n
  · rw [if_pos hj, if_pos hj, h j hj]
  · rw [if_neg hj, if_neg hj]
theorem lst_one (f : Nat → Int) (a n : Nat) : ∀ v ∈ lst f a n, v.oneCell' = true := by
  intro v hv
  simp [lst] at hv
  obtain ⟨j, _, rfl⟩ := hv
  rfl
theorem lst_all (f : Nat → Int) (a n : Nat) : (lst f a n).toArray.all (·.oneCell') = true := all_oneCell_toArray (lst_one f a n)
theorem splice_get {α : Type} (L : List α) (off : Nat) (cs : List α) (h : off + cs.length ≤ L.length) (j : Nat) :
    (splice L off cs)[j]? = if off ≤ j ∧ j < off + cs.length then cs[j - off]? else L[j]? := by
  unfold splice
  rw [List.getElem?_append, List.length_take, Nat.min_eq_left (by omega)]
  by_cases h1 : j < off
  · rw [if_pos h1, if_neg (by omega), List.getElem?_take, if_pos h1]
  · rw [if_neg h1, List.getElem?_append]
    by_cases h2 : j < off + cs.length
    · rw [if_pos (by omega), if_pos (by omega)]
    · rw [if_neg (by omega), if_neg (by omega), List.getElem?_drop]
      congr 1
      omega
theorem splice_lst {f g h : Nat → Int} {a c n off m : Nat} (h1 : off + m ≤ n) (hin : ∀ j, j < m → h (a + (off + j)) = g (c + j)) (hout : ∀ j, j < n → j < off ∨ off + m ≤ j → h (a + j) = f (a + j)) :
    splice (lst f a n) off (lst g c m) = lst h a n := by
  apply List.ext_getElem?
  intro j
  rw [splice_get _ _ _ (by rw [lst_length, lst_length]; exact h1), lst_length, lst_get, lst_get, lst_get]
  by_cases hj : off ≤ j ∧ j < off + m
  · rw [if_pos hj, if_pos (by omega), if_pos (by omega), ← hin _ (by omega)]
    congr 3
    omega
  · rw [if_neg hj]
    by_cases hn : j < n
    · rw [if_pos hn, if_pos hn, hout j hn (by omega)]
    · rw [if_neg hn, if_neg hn]
def bk (f : Nat → Int) (h : Nat → Bool) : Int → Option Value := fun k => if 0 ≤ k ∧ h k.toNat = true then some (.agg (lst f (16 * k.toNat) 16).toArray) else none
theorem bk_some (f : Nat → Int) (h : Nat → Bool) (k : Nat) : (bk f h (k : Int)).isSome = h k := by
  simp only [bk]
  cases e : h k <;> simp [e]
theorem bk_get (f : Nat → Int) (h : Nat → Bool) (k : Nat) : bk f h (k : Int) = if h k = true then some (.agg (lst f (16 * k) 16).toArray) else none := by
  simp [bk]
theorem bk_sup {f : Nat → Int} {h : Nat → Bool} {n : Nat} (hs : ∀ k, h k = true → k < n) (k : Int) (_ : (kl k).wf = true) (e : (bk f h k).isSome = true) : 0 ≤ k ∧ k < (n : Int) := by
  simp only [bk] at e
  split at e
  · rename_i h1
    have := hs _ h1.2
    omega
  · cases e
theorem bk_cnt (f : Nat → Int) (h : Nat → Bool) (n : Nat) : cnt n (fun k => (bk f h (k : Int)).isSome) = cnt n h := cnt_congr fun k _ => bk_some f h k
theorem bk_row {f : Nat → Int} {h : Nat → Bool} {k : Nat} (hh : ∀ i, h (i / 16) = false → f i = 0) :
    (bk f h (k : Int)).getD (.agg (lst (fun _ => 0) 0 16).toArray) = .agg (lst f (16 * k) 16).toArray := by
  rw [bk_get]
  cases e : h k with
  | true => rfl
  | false =>
    simp only [Bool.false_eq_true, if_false, Option.getD_none]
    congr 2
    exact lst_congr fun j hj => (hh _ (by rw [show (16 * k + j) / 16 = k by omega]; exact e)).symm
theorem upd_bk {f g : Nat → Int} {h h' : Nat → Bool} {k : Nat} (hk : h' k = true) (ho : ∀ j, j ≠ k → h' j = h j ∧ (h j = true → ∀ i, i / 16 = j → g i = f i)) :
    ∀ j, upd (bk f h) (k : Int) (some (.agg (lst g (16 * k) 16).toArray)) j = bk g h' j := by
  intro j
  simp only [upd]
  by_cases e : j = (k : Int)
  · subst e
    rw [if_pos rfl, bk_get, hk]
    rfl
  · rw [if_neg e]
    simp only [bk]
    by_cases h0 : 0 ≤ j
    · have hne : j.toNat ≠ k := by omega
      rw [(ho _ hne).1]
      by_cases h1 : h j.toNat = true
      · rw [if_pos ⟨h0, h1⟩, if_pos ⟨h0, h1⟩]
        congr 3
        exact lst_congr fun i hi => ((ho _ hne).2 h1 _ (by omega)).symm
      · rw [if_neg (fun h2 => h1 h2.2), if_neg (fun h2 => h1 h2.2)]
    · rw [if_neg (fun h2 => h0 h2.1), if_neg (fun h2 => h0 h2.1)]
theorem bk_cong {f g : Nat → Int} {h : Nat → Bool} (ho : ∀ j, h j = true → ∀ i, i / 16 = j → g i = f i) (k : Int) : bk f h k = bk g h k := by
  simp only [bk]
  split
  · rename_i h1
    congr 3
    exact lst_congr fun i hi => (ho _ h1.2 _ (by omega)).symm
  · rfl
structure F where
  size : Nat
  byte : Nat → Int
  has : Nat → Bool
structure F.Ok (x : F) : Prop where
  most : x.size ≤ 1024
  beh : ∀ i, x.size ≤ i → x.byte i = 0
  hol : ∀ i, x.has (i / 16) = false → x.byte i = 0
  inn : ∀ k, x.has k = true → 16 * k < x.size
def F.empty : F := ⟨0, fun _ => 0, fun _ => false⟩
theorem F.empty_ok : F.empty.Ok := ⟨by simp [F.empty], fun _ _ => rfl, fun _ _ => rfl, fun k h => by cases h⟩
def F.used (x : F) : Nat := cnt 64 x.has
theorem F.Ok.sup {x : F} (h : x.Ok) (k : Nat) (e : x.has k = true) : k < 64 := by
  have := h.inn k e
  have := h.most
  omega
def lay (f : Nat → Int) (a n : Nat) (g : Nat → Int) : Nat → Int := fun i => if a ≤ i ∧ i < a + n then g (i - a) else f i
def layH (h : Nat → Bool) (a n : Nat) : Nat → Bool := fun k => h k || decide (a / 16 ≤ k ∧ 16 * k < a + n ∧ 0 < n)
def cutF (f : Nat → Int) (n : Nat) : Nat → Int := fun i => if i < n then f i else 0
def cutH (h : Nat → Bool) (n : Nat) : Nat → Bool := fun k => h k && decide (16 * k < n)
def F.write (x : F) (a n : Nat) (g : Nat → Int) : F := ⟨max x.size (a + n), lay x.byte a n g, layH x.has a n⟩
def F.cut (x : F) (n : Nat) : F := ⟨n, cutF x.byte n, cutH x.has n⟩
def F.lacks (x : F) (a n : Nat) : Nat := cnt 64 (fun k => decide (a / 16 ≤ k ∧ 16 * k < a + n) && !x.has k)
theorem lay_zero (f : Nat → Int) (a : Nat) (g : Nat → Int) : lay f a 0 g = f := by
  funext i
  simp only [lay]
  rw [if_neg (by omega)]
theorem layH_zero (h : Nat → Bool) (a : Nat) : layH h a 0 = h := by
  funext k
  simp [layH]
theorem lay_hol {f : Nat → Int} {h : Nat → Bool} (hh : ∀ i, h (i / 16) = false → f i = 0) (a n : Nat) (g : Nat → Int) : ∀ i, layH h a n (i / 16) = false → lay f a n g i = 0 := by
  intro i hi
  simp only [layH, Bool.or_eq_false_iff, decide_eq_false_iff_not] at hi
  simp only [lay]
  rw [if_neg (by omega)]
  exact hh i hi.1
theorem F.write_ok {x : F} (h : x.Ok) {a n : Nat} (g : Nat → Int) (ha : a + n ≤ 1024) : (x.write a n g).Ok := by
  refine ⟨?_, fun i hi => ?_, lay_hol h.hol a n g, fun k hk => ?_⟩
  · have := h.most
    simp only [F.write]
    omega
  · simp only [F.write, lay] at *
    rw [if_neg (by omega)]
    exact h.beh i (by omega)
  · simp only [F.write, layH, Bool.or_eq_true, decide_eq_true_eq] at *
    rcases hk with hk | hk
    · have := h.inn k hk
      omega
    · omega
theorem F.cut_ok {x : F} (h : x.Ok) {n : Nat} (hn : n ≤ 1024) : (x.cut n).Ok := by
  refine ⟨hn, fun i hi => ?_, fun i hi => ?_, fun k hk => ?_⟩
  · simp only [F.cut, cutF] at *
    rw [if_neg (by omega)]
  · simp only [F.cut, cutF, cutH, Bool.and_eq_false_iff, decide_eq_false_iff_not] at *
    by_cases hi' : i < n
    · rw [if_pos hi']
      rcases hi with hi | hi
      · exact h.hol i hi
      · omega
    · rw [if_neg hi']
  · simp only [F.cut, cutH, Bool.and_eq_true, decide_eq_true_eq] at *
    omega
theorem F.used_write (x : F) {a n : Nat} (g : Nat → Int) (hn : 0 < n) : (x.write a n g).used = x.used + x.lacks a n := by
  refine cnt_add (fun k _ => ?_) fun k _ => ?_
  · simp only [F.write, layH]
    cases x.has k <;> simp [hn]
  · cases x.has k <;> simp
theorem F.used_cut (x : F) (n : Nat) : (x.cut n).used ≤ x.used := cnt_mono fun k _ h => by
  simp only [F.cut, cutH, Bool.and_eq_true] at h
  exact h.1
structure S where
  left : Nat
  fs : List (Option F)
def S.get (s : S) (f : Int) : Option F := if 1 ≤ f then (s.fs[f.toNat - 1]?).join else none
def S.put (s : S) (f : Int) (o : Option F) (n : Nat) : S := ⟨n, s.fs.set (f.toNat - 1) o⟩
def usedO : Option F → Nat
  | none => 0
  | some x => x.used
def total : List (Option F) → Nat
  | [] => 0
  | o :: l => usedO o + total l
theorem total_append (l : List (Option F)) (o : Option F) : total (l ++ [o]) = total l + usedO o := by
  induction l with
  | nil => simp [total]
  | cons a l ih => simp [total, ih]; omega
theorem total_set : ∀ (l : List (Option F)) (i : Nat) (o o' : Option F), l[i]? = some o → total (l.set i o') + usedO o = total l + usedO o'
  | [], i, o, o', h => by simp at h
  | a :: l, 0, o, o', h => by
    simp at h
    subst h
    simp [total]
    omega
  | a :: l, i + 1, o, o', h => by
    have := total_set l i o o' (by simpa using h)
    simp [total]
    omega
theorem S.get_at {s : S} {f : Int} {x : F} (h : s.get f = some x) : 1 ≤ f ∧ s.fs[f.toNat - 1]? = some (some x) := by
  simp only [S.get] at h
  split at h
  · rename_i h1
    refine ⟨h1, ?_⟩
    cases e : s.fs[f.toNat - 1]? with
    | none => rw [e] at h; cases h
    | some o => rw [e] at h; simp at h; rw [h]
  · cases h
theorem S.get_lt {s : S} {f : Int} {x : F} (h : s.get f = some x) : 1 ≤ f ∧ f ≤ s.fs.length := by
  obtain ⟨h1, h2⟩ := S.get_at h
  have := (List.getElem?_eq_some_iff.1 h2).1
  omega
theorem S.get_put {s : S} {f : Int} {x : F} (h : s.get f = some x) (o : Option F) (n : Nat) (j : Int) : (s.put f o n).get j = if j = f then o else s.get j := by
  obtain ⟨h1, h2⟩ := S.get_at h
  have hl := (List.getElem?_eq_some_iff.1 h2).1
  simp only [S.get, S.put]
  by_cases e : j = f
  · subst e
    rw [if_pos h1, if_pos rfl, List.getElem?_set_self hl]
    cases o <;> rfl
  · rw [if_neg e]
    by_cases hj : 1 ≤ j
    · rw [if_pos hj, if_pos hj, List.getElem?_set_ne (by omega)]
    · rw [if_neg hj, if_neg hj]
def S.add (s : S) : S := ⟨s.left, s.fs ++ [some F.empty]⟩
theorem S.get_add (s : S) (j : Int) : s.add.get j = if j = s.fs.length + 1 then some F.empty else s.get j := by
  simp only [S.get, S.add]
  by_cases e : j = s.fs.length + 1
  · subst e
    rw [if_pos (by omega), if_pos rfl]
    simp
  · rw [if_neg e]
    by_cases hj : 1 ≤ j
    · rw [if_pos hj, if_pos hj]
      by_cases hl : j.toNat - 1 < s.fs.length
      · rw [List.getElem?_append_left hl]
      · rw [List.getElem?_append_right (by omega), List.getElem?_eq_none (by simp; omega), List.getElem?_eq_none (by omega)]
    · rw [if_neg hj, if_neg hj]
end Go.Proofs.YtlngeaacjbdmhaaGreat

namespace Go.Proofs.YtlngeaacjbdmhaaGreat
open Go.RowKit Go.Maps
def intOf : Value → Int
  | .int _ x => x
  | _ => 0
abbrev Z16 : Array Value := (lst (fun _ => 0) 0 16).toArray
theorem zero74 (w : World) : (zeroValue 309).run Tryz.prog w = .ok (.agg Z16) w := (zero_of_info (P := Tryz.prog) (t := 309) (v := .agg Z16) (n := 16) (by kernel_rfl)).1 w
theorem size74 : (Tryz.prog.info? 309).map (·.size) = some 16 := by kernel_rfl
theorem ht55 : Tryz.prog.underlying 259 = some (.map 3 309) := Tryz.underlying259
theorem ht51 : Tryz.prog.underlying 200 = some (.map 3 258) := Tryz.underlying200
abbrev P0 (b : Nat) : Value := .pointer (some ⟨b, 0, none⟩)
structure Fl (W : World) (c m : Nat) (x : F) : Prop where
  hc : W.heap[c]? = some (.cells #[I x.size, .map (some m)] 261)
  hm : Mp W m 64 (bk x.byte x.has)
  ok : x.Ok
section
variable {W W' : World} {c m : Nat} {x : F}
theorem Fl.cells (h : Fl W c m x) : W.cell? ⟨c, 0, none⟩ = some (I x.size) ∧ W.cell? ⟨c, 1, none⟩ = some (.map (some m)) ∧ ∀ i, W.frozen? ⟨c, i, none⟩ = false :=
  ⟨by rw [cell_of h.hc]; rfl, by rw [cell_of h.hc]; rfl, frozen_of h.hc⟩
theorem Fl.fr {S : List Nat} (h : Fl W c m x) (g : Fr S W W') (hc : c ∉ S) (hm : m ∉ S) : Fl W' c m x := ⟨(g.blk c (lt_of_heap h.hc) hc).trans h.hc, h.hm.fr g hm, h.ok⟩
theorem Fl.below (h : Fl W c m x) (g : Below W.heap.size W W') : Fl W' c m x := h.fr (S := []) (.of_below g) (by simp) (by simp)
theorem Fl.alloc (h : Fl W c m x) (o : Obj) : Fl (W.alloc o) c m x := h.below ((Below.refl _ W).alloc (Nat.le_refl _) o)
end
theorem store74 {R : Array Value} (hR : R.size = 16) (h1 : R.all (·.oneCell') = true) (w : World) :
    (storeCells ⟨w.heap.size, 0, none⟩ R.toList 0).run Tryz.prog (w.alloc (.cells #[Value.int IntKind.u8 0, Value.int IntKind.u8 0, Value.int IntKind.u8 0, Value.int IntKind.u8 0, Value.int IntKind.u8 0, Value.int IntKind.u8 0, Value.int IntKind.u8 0, Value.int IntKind.u8 0, Value.int IntKind.u8 0, Value.int IntKind.u8 0, Value.int IntKind.u8 0, Value.int IntKind.u8 0, Value.int IntKind.u8 0, Value.int IntKind.u8 0, Value.int IntKind.u8 0, Value.int IntKind.u8 0] 309)) = .ok () (w.alloc (.cells R 309)) :=
  run_storeCells_new w 309 Z16 R (by rw [hR]; exact size74) (by rw [hR]; rfl) h1
theorem cnt_none {n : Nat} {p : Nat → Bool} (h : ∀ k, k < n → p k = false) : cnt n p = 0 := by
  induction n with
  | zero => rfl
  | succ n ih => rw [cnt_succ, ih fun k hk => h k (by omega), h n (by omega)]; rfl
theorem split_any (X : Int) (q r : Nat) (h : X = ((16 * q + r : Nat) : Int)) (hr : r < 16) (hn : q < 100000) (w : World) : Calls Tryz.prog 280 #[I X] w fun e w' => e = .returned (.tuple #[I (q : Int), I (r : Int)]) ∧ w' = w := by
  have h0 : (0 : Int) ≤ X := by omega
  have h1 : X < 10000000 := by omega
  have hq : X / 16 = (q : Int) := by omega
  have hm : X % 16 = (r : Int) := by omega
  clear h
  go_enter Tryz.func280, Tryz.ntmps280
  go_wp2_with fail
  go_ret2
  exact ⟨by simp [hq, hm], rfl⟩
set_option maxHeartbeats 1000000 in
theorem lacks_any {W : World} {c m : Nat} {x : F} (h : Fl W c m x) (a n : Nat) (hn : 0 < n) (ha : a + n ≤ 1024) (E : Int) (hE : E = ((a + n : Nat) : Int)) :
    Calls Tryz.prog 217 #[P0 c, I (a : Int), I E] W fun e w' => e = .returned (I (x.lacks a n)) ∧ Below W.heap.size W w' := by
  obtain ⟨h0, h1, hf⟩ := h.cells
  have H := hide h
  clear h h0 hf
  have hE1 : (1:Int) ≤ E := by omega
  have hE2 : E ≤ 1024 := by omega
  replace hE := hide hE
  obtain ⟨B, rB, hB, hrB⟩ : ∃ q r : Nat, a = 16 * q + r ∧ r < 16 := ⟨a / 16, a % 16, by omega, by omega⟩
  obtain ⟨L, rL, hL, hrL⟩ : ∃ q r : Nat, a + n - 1 = 16 * q + r ∧ r < 16 := ⟨(a + n - 1) / 16, (a + n - 1) % 16, by omega, by omega⟩
  have hL1 : L < 64 := by omega
  have hBL : B ≤ L := by omega
  replace hL := hide hL
  replace hB := hide hB
  go_enter Tryz.func217, Tryz.ntmps217
  go_wp2_with fail
  refine (split_any _ B rB (by rw [unhide hB]) hrB (by omega) _).mono ?_
  rintro e1 w1 ⟨rfl, rfl⟩
  go_wp2_with fail
  refine (split_any _ L rL (by rw [unhide hE, ← unhide hL]; omega) hrL (by omega) _).mono ?_
  rintro e1 w2 ⟨rfl, rfl⟩
  go_wp2_with fail
  go_loopw [11, 12] (fun v i wr => ∃ (k : Nat), B ≤ k ∧ k ≤ L + 1 ∧ i = I (k : Int) ∧ v = I ((cnt k (fun j => decide (B ≤ j) && !x.has j) : Nat) : Int) ∧ Hid (Below w2.heap.size w2 wr)) (fun v i _ => L + 1 - (intOf i).toNat)
  case atStart =>
    refine ⟨B, by omega, by omega, rfl, ?_, hide (Below.refl _ _)⟩
    rw [cnt_none fun k hk => by simp; omega]
    rfl
  case round =>
    obtain ⟨k, hk0, hk1, rfl, rfl, hb⟩ := hrel
    have h2 := (unhide H).below (unhide hb)
    have hlk := h2.hm.look_ok ht55 (zero74 _) (k := (k : Int)) (wf_of (by omega))
    rw [bk_row h2.ok.hol, bk_some] at hlk
    obtain ⟨_, c1, _⟩ := h2.cells
    clear h2 h1
    obtain ⟨R, hR⟩ : ∃ R, R = (lst x.byte (16 * k) 16).toArray := ⟨_, rfl⟩
    have hRs : R.size = 16 := by rw [hR]; simp [lst_length]
    have hst := store74 hRs (by rw [hR]; exact lst_all _ _ _)
    rw [← hR] at hlk
    replace hR := hide hR
    obtain ⟨N, hN⟩ : ∃ N : Nat, N = cnt k (fun j => decide (B ≤ j) && !x.has j) := ⟨_, rfl⟩
    rw [← hN]
    have hN1 : N ≤ k := by rw [hN]; exact cnt_le _ _
    replace hN := hide hN
    by_cases hk : k ≤ L
    · have g1 : (k : Int) ≤ (L : Int) := by omega
      cases ht : x.has k with
      | true =>
        rw [ht] at hlk
        go_wp2_with fail
        refine ⟨⟨k + 1, by omega, by omega, rfl, ?_, hide ((unhide hb).alloc (unhide hb).size _)⟩, by simp [intOf]; omega⟩
        rw [cnt_succ, ht, unhide hN]
        simp
      | false =>
        rw [ht] at hlk
        go_wp2_with fail
        refine ⟨⟨k + 1, by omega, by omega, rfl, ?_, hide ((unhide hb).alloc (unhide hb).size _)⟩, by simp [intOf]; omega⟩
        rw [cnt_succ, ht, unhide hN]
        simp [hk0]
    · have g1 : ¬ (k : Int) ≤ (L : Int) := by omega
      go_wp2_with fail
      go_ret
      refine ⟨?_, unhide hb⟩
      obtain rfl : k = L + 1 := by omega
      have e : N = x.lacks a n := by
        rw [unhide hN, F.lacks]
        have e1 := unhide hB
        have e2 := unhide hL
        have hz : ∀ d, L + 1 + d ≤ 64 → cnt (L + 1 + d) (fun k => decide (a / 16 ≤ k ∧ 16 * k < a + n) && !x.has k) = cnt (L + 1) (fun j => decide (B ≤ j) && !x.has j) := by
          intro d
          induction d with
          | zero =>
            intro _
            refine cnt_congr fun k hk => ?_
            have : (a / 16 ≤ k ∧ 16 * k < a + n) ↔ B ≤ k := by omega
            simp [this]
          | succ d ih =>
            intro hd
            rw [← Nat.add_assoc, cnt_succ, ih (by omega)]
            have : ¬ (a / 16 ≤ L + 1 + d ∧ 16 * (L + 1 + d) < a + n) := by omega
            simp [this]
        have := hz (64 - (L + 1)) (by omega)
        rw [show L + 1 + (64 - (L + 1)) = 64 by omega] at this
        exact this.symm
      rw [e]
      rfl
end Go.Proofs.YtlngeaacjbdmhaaGreat

namespace Go.Proofs.YtlngeaacjbdmhaaGreat
open Go.RowKit Go.Maps
theorem info5 : (Tryz.prog.info? 5).map (fun i => (i.zero, i.size, i.bytes)) = some (some (.int .u8 0), 1, 1) := by kernel_rfl
theorem size5 : (Tryz.prog.info? 5).map (·.size) = some 1 := by kernel_rfl
theorem make_run (n : Nat) (hn : n ≤ 1000000) (w : World) : (Instr.makeSlice 34 (.int .i64 (n : Int)) (.int .i64 (n : Int))).run Tryz.prog w = .ok (.slice (some ⟨w.heap.size, 0, none⟩) n n) (w.alloc (.cells (lst (fun _ => 0) 0 n).toArray 5)) := by
  obtain ⟨i0, hi, hz0, hz1, hz2⟩ := info_parts info5
  have h := run_make w 34 5 i0 (.int .u8 0) Tryz.underlying34 hi hz0 .i64 .i64 (n : Int) (n : Int) (by omega) (by omega) (by rw [hz2]; omega) (by omega)
  rw [h, hz1]
  simp only [Int.toNat_natCast]
  have e : madeCells (Value.int .u8 0).cells (n * 1) = (lst (fun _ => 0) 0 n).toArray := by
    apply Array.ext
    · simp [madeCells, lst_length]
    · intro j h1 h2
      simp [madeCells, lst, Value.cells, Nat.mod_one]
  rw [e]
theorem slice74 (b r : Nat) (hr : r < 16) (w : World) : (Instr.sliceAt 309 (.pointer (some ⟨b, 0, none⟩)) (some (.int .i64 (r : Int))) none none).run Tryz.prog w = .ok (.slice (some ⟨b, r, none⟩) (16 - r) (16 - r)) w := by
  have h1 : Tryz.prog.underlying 309 = some (.array 16 5) := Tryz.underlying309
  obtain ⟨i0, hi, hz0, hz1, hz2⟩ := info_parts info5
  have e3 : ¬ (16 = r) := by omega
  have e4 : r ≤ 16 := by omega
  simp [Instr.sliceAt, Instr.sureAddr, run_underlying h1, Instr.sliceBounds, Instr.sliceBound, asIntOf, sizeOf, typeInfo, hi, hz1, e3, e4]
  rw [Addr.add_mid, Nat.zero_add]
theorem Below.lay {u w : World} (h : Below u.heap.size u w) (o : Obj) : Below u.heap.size u (w.alloc o) := h.alloc h.size o
theorem wrap_ok {d m : Nat} (h : d + m ≤ 1000000) : IntKind.i64.wrap ((d : Int) + (m : Int)) = ((d + m : Nat) : Int) := by
  rw [IntKind.wrap_i64]; omega
set_option maxHeartbeats 1000000 in
theorem cread_any {W : World} {c m : Nat} {x : F} (h : Fl W c m x) (a n : Nat) (A : Int) (ha : 0 < n → A = (a : Int) ∧ a + n ≤ x.size) (hn : n ≤ 1024) :
    Calls Tryz.prog 225 #[P0 c, I A, I (n : Int)] W fun e w' => e = .returned (.slice (some ⟨W.heap.size, 0, none⟩) n n) ∧ w'.heap[W.heap.size]? = some (.cells (lst x.byte a n).toArray 5) ∧ Below W.heap.size W w' := by
  have hmk := make_run n (by omega)
  have H := hide h
  have HA := hide ha
  clear h ha
  go_enter Tryz.func225, Tryz.ntmps225
  go_wp2_with fail
  go_loopw [8] (fun v wr => ∃ (d : Nat), d ≤ n ∧ v = I (d : Int) ∧ Hid (wr.heap[W.heap.size]? = some (.cells (lst (cutF x.byte (a + d)) a n).toArray 5)) ∧ Hid (Below W.heap.size W wr)) (fun v _ => n - (intOf v).toNat)
  case atStart =>
    refine ⟨0, by omega, rfl, hide ?_, hide ((Below.refl _ W).alloc (Nat.le_refl _) _)⟩
    rw [heap_alloc_new]
    rw [lst_congr (g := cutF x.byte (a + 0)) (b := a) fun j _ => by simp only [cutF]; rw [if_neg (by omega)]]
  case round =>
    obtain ⟨d, hd, rfl, hg, hb⟩ := hrel
    by_cases hdn : d < n
    · have g1 : (d : Int) < (n : Int) := by omega
      have g0 : (0 : Int) ≤ (d : Int) := by omega
      obtain ⟨hA1, hA2⟩ := unhide HA (by omega)
      have h2 := (unhide H).below (unhide hb)
      have hmax := h2.ok.most
      obtain ⟨q, r, hq, hr⟩ : ∃ q r : Nat, a + d = 16 * q + r ∧ r < 16 := ⟨(a + d) / 16, (a + d) % 16, by omega, by omega⟩
      have hlk := h2.hm.look ht55 (zero74 _) (k := (q : Int)) (wf_of (by omega))
      rw [bk_row h2.ok.hol] at hlk
      obtain ⟨_, c1, _⟩ := h2.cells
      clear h2
      obtain ⟨R, hR⟩ : ∃ R, R = (lst x.byte (16 * q) 16).toArray := ⟨_, rfl⟩
      have hRs : R.size = 16 := by rw [hR]; simp [lst_length]
      have hst := store74 hRs (by rw [hR]; exact lst_all _ _ _)
      rw [← hR] at hlk
      replace hR := hide hR
      have r0 : (0 : Int) ≤ (r : Int) := by omega
      have r1 : (r : Int) < 16 := by omega
      have a0 : (0 : Int) ≤ A := by omega
      have a1 : A ≤ 1024 := by omega
      have d1 : (d : Int) ≤ 1024 := by omega
      replace hA1 := hide hA1
      replace hq := hide hq
      go_wp2_with fail
      refine (split_any _ q r (by rw [unhide hA1, ← unhide hq]; omega) hr (by have := unhide hq; omega) _).mono ?_
      rintro e1 w1 ⟨rfl, rfl⟩
      go_wp2_with fail
      obtain ⟨w2, hw2⟩ : ∃ w2, w2 = w1.alloc (Obj.cells R 309) := ⟨_, rfl⟩
      rw [← hw2]
      have G2 : w2.heap[w1.heap.size]? = some (.cells R 309) := by rw [hw2]; exact heap_alloc_new _ _
      have hsz := (unhide hb).size
      have hlt := lt_of_heap (unhide hg)
      have G1 : w2.heap[W.heap.size]? = some (.cells (lst (cutF x.byte (a + d)) a n).toArray 5) := by rw [hw2, Below.heap_alloc _ _ _ hlt]; exact unhide hg
      have B2 : Below W.heap.size W w2 := by rw [hw2]; exact Below.lay (unhide hb) _
      clear hlk c1 hst hmk hg hb hsz
      generalize w1.heap.size = b2 at *
      obtain ⟨mm, hmm⟩ : ∃ mm, mm = min (16 - r) (n - d) := ⟨_, rfl⟩
      have hpos : 0 < mm := by omega
      have C2 : ∀ j v, (lst x.byte (a + d) mm)[j]? = some v → w2.cell? ((⟨b2, r, none⟩ : Addr).add j) = some v := by
        intro j v hv
        rw [lst_get] at hv
        split at hv
        · rw [Addr.add_mid, cell_of G2, unhide hR, ← hv]
          have := unhide hq
          simp only [List.getElem?_toArray]
          rw [lst_get' (by omega)]
          congr 3
          omega
        · cases hv
      replace hw2 := hide hw2
      replace hmm := hide hmm
      replace G1 := hide G1
      replace G2 := hide G2
      replace B2 := hide B2
      replace C2 := hide C2
      have dn : ((n - d : Nat) : Int) = (n : Int) - (d : Int) := by omega
      replace dn := hide dn
      have hsl := slice74 b2 r hr
      have hnd : ¬ n = d := by omega
      go_region_law (refine step_copy_splice (by rfl) (.tmp 33) (.tmp 35) 34 34 (by rfl) 5 Tryz.underlying34 size5 (some ⟨W.heap.size, d, none⟩) (some ⟨b2, r, none⟩) (n - d) (n - d) (16 - r) (16 - r) (by rfl) (by rfl) W.heap.size d (lst (cutF x.byte (a + d)) a n) 5 (unhide G1) (lst x.byte (a + d) mm) (by rw [lst_length]; exact unhide hmm) (fun _ => ⟨rfl, _, rfl, unhide C2⟩) (by rw [lst_length, lst_length]; have := unhide hmm; omega) (lst_one _ _ _) W.heap.size W (below_dn (unhide B2) _) (Nat.le_refl _) ?_; intro w4 hg4 hb4)
      rw [lst_length, wrap_ok (by have := unhide hmm; omega)]
      simp only [Act.put, List.getElem_toArray, List.getElem_cons_succ, List.getElem_cons_zero, List.setIfInBounds_toArray, List.set_cons_zero, List.set_cons_succ]
      have HB4 := hide hb4
      clear hb4
      go_wp2_with fail
      have e := unhide hmm
      refine ⟨⟨d + mm, by omega, rfl, hide ?_, HB4⟩, by simp [intOf]; omega⟩
      rw [unhide hg4, splice_lst (h := cutF x.byte (a + (d + mm))) (by omega)]
      · intro j hj
        simp only [cutF]
        rw [if_pos (by omega), Nat.add_assoc]
      · intro j hj ho
        simp only [cutF]
        by_cases h1 : j < d
        · rw [if_pos (by omega), if_pos (by omega)]
        · rw [if_neg (by omega), if_neg (by omega)]
    · obtain rfl : d = n := by omega
      have g1 : ¬ (d : Int) < (d : Int) := by omega
      go_wp2_with fail
      go_ret
      refine ⟨rfl, ?_, unhide hb⟩
      rw [unhide hg, lst_congr (g := x.byte) (b := a) fun j hj => by simp only [cutF]; rw [if_pos (by omega)]]
end Go.Proofs.YtlngeaacjbdmhaaGreat
