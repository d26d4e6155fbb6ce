/-
  Bytes in memory: rows that a call owns and appends to, rows that came in; what such a call leaves alone.
-/
import Derived.Test.YtlokihpegllddaaRows
import Derived.RangeFuncNested
import Derived.RangeFuncBound
import Derived.RangeFuncCalls
import Derived.RangeFuncLeaves
import Derived.WalkKit
import Derived.WalkSpells
import Derived.Deep.RegionHeld3
import Derived.Deep.DrawnRows
import Derived.Deep.QuietTactic
import Derived.BigQuiet
import Derived.Deep.OwnRows
import Derived.Laws.CopyOwn
import Derived.ArgAppend
import Derived.Maps.AppendAt
import Derived.Deep.Slices
import Derived.Lib.OthersKept
import Derived.Lib.AppendIntMem
import Derived.Lib.ConvBytes
import Derived.Laws.BytesString
import Derived.Laws.IdiomStrings
import Derived.Laws.BytesArg
import Derived.Deep.RegionLaw
import Derived.Deep.CutRange
import Derived.Deep.CutBlock
namespace Go.Proofs.Ytlokihpegllddaa.Cl
open Go.RowKit

theorem hide {p : Prop} (h : p) : Hid p := h
theorem unhide {p : Prop} (h : Hid p) : p := h
theorem putAll {w : World} (o : Obj) (h : Nat) (hh : h = w.heap.size) : (w.alloc o).heap[h]? = some o := by
  subst hh; exact heap_alloc_new w o
theorem lt_of_heap {W : World} {k : Nat} {o : Obj} (e : W.heap[k]? = some o) : k < W.heap.size := (Array.getElem?_eq_some_iff.1 e).1
theorem below_dn {B : Nat} {u w : World} (h : Below B u w) (m : Nat) : Below B u (w.drewN m) := ⟨h.os, h.tape, h.output, h.size, h.block⟩
theorem below_drew {B : Nat} {u w : World} (h : Below B u w) : Below B u w.drew := ⟨h.os, h.tape, h.output, h.size, h.block⟩
theorem Below.step {B : Nat} {u v w : World} (h : Below B u v) (g : Below v.heap.size v w) (hb : B ≤ u.heap.size) : Below B u w := h.trans (g.mono (Nat.le_trans hb h.size))
theorem cell_of {W : World} {b : Nat} {cs : Array Value} {t : TypeId} {f : Nat × Nat} (h : W.heap[b]? = some (.cells cs t f)) (i : Nat) : W.cell? ⟨b, i, none⟩ = cs[i]? := by
  simp [World.cell?, h]
theorem frozen_of {W : World} {b : Nat} {cs : Array Value} {t : TypeId} (h : W.heap[b]? = some (.cells cs t)) (i : Nat) : W.frozen? ⟨b, i, none⟩ = false := by
  simp [World.frozen?, h]
theorem heap_set {W : World} {b : Nat} {cs : Array Value} {t : TypeId} {f : Nat × Nat} (h : W.heap[b]? = some (.cells cs t f)) (i : Nat) (v : Value) :
    (W.setCell ⟨b, i, none⟩ v).heap[b]? = some (.cells (cs.setIfInBounds i v) t f) := by
  obtain ⟨hl, he⟩ := Array.getElem?_eq_some_iff.1 h
  simp [World.setCell, Array.getElem?_modify, h]
theorem addAt (b o j : Nat) : (⟨b, o, none⟩ : Addr).add j = ⟨b, o + j, none⟩ := by unfold Addr.add; split <;> simp_all

/-- Bytes as cells; texts. -/
abbrev bs (l : List UInt8) : ByteArray := ⟨l.toArray⟩
abbrev S (l : List UInt8) : Value := .string (bs l)
abbrev bc (l : List UInt8) : List Value := Lib.byteCells l
theorem bc_get {l : List UInt8} {k : Nat} {c : UInt8} (h : l[k]? = some c) : (bc l)[k]? = some (.int .u8 c.toNat) := by simp [Lib.byteCells, h]
theorem bc_one (l : List UInt8) : ∀ u ∈ bc l, u.oneCell' = true := by
  intro u hu
  simp [Lib.byteCells] at hu
  obtain ⟨c, -, rfl⟩ := hu
  rfl
theorem info5 : (Try.prog.info? 5).map (fun i => (i.zero, i.size, i.bytes)) = some (some (.int .u8 0), 1, 1) := by kernel_rfl

/-- Bytes that lie below a block's number. -/
def By (W : World) (B : Nat) (a : Option Addr) (l : List UInt8) : Prop := ∀ (k : Nat) (c : UInt8), l[k]? = some c → ∃ b off, a = some ⟨b, off, none⟩ ∧ b < B ∧ W.cell? ⟨b, off + k, none⟩ = some (.int .u8 c.toNat)
theorem By.below {W W' : World} {B : Nat} {a : Option Addr} {l : List UInt8} (h : By W B a l) (g : Below B W W') : By W' B a l := fun k c hk => by
  obtain ⟨b, off, h1, h2, h3⟩ := h k c hk
  exact ⟨b, off, h1, h2, (World.cell?_of_block (g.block b h2)).trans h3⟩
theorem By.mono {W : World} {B B' : Nat} {a : Option Addr} {l : List UInt8} (h : By W B a l) (g : B ≤ B') : By W B' a l := fun k c hk => by
  obtain ⟨b, off, h1, h2, h3⟩ := h k c hk
  exact ⟨b, off, h1, Nat.lt_of_lt_of_le h2 g, h3⟩
theorem By.nil (W : World) (B : Nat) (a : Option Addr) : By W B a [] := fun k c h => by simp at h

/-- What a call that appends leaves alone: what lies below B, and whatever is no row of bytes. -/
structure Kp (B : Nat) (w w' : World) : Prop where
  be : Below B w w'
  ok : Lib.OthersKept 5 none w w'
theorem Kp.refl (B : Nat) (w : World) : Kp B w w := ⟨Below.refl B w, Lib.OthersKept.refl 5 none w⟩
theorem Kp.trans {B : Nat} {u v w : World} (h : Kp B u v) (g : Kp B v w) : Kp B u w := ⟨h.be.trans g.be, h.ok.trans g.ok⟩
theorem Kp.alloc {B : Nat} {u v : World} (h : Kp B u v) (hb : B ≤ u.heap.size) (o : Obj) : Kp B u (v.alloc o) := ⟨h.be.alloc (Nat.le_trans hb h.be.size) o, h.ok.alloc o⟩
theorem Kp.drew {B : Nat} {u v : World} (h : Kp B u v) : Kp B u v.drew := ⟨below_drew h.be, h.ok⟩
theorem Kp.dn {B : Nat} {u v : World} (h : Kp B u v) (m : Nat) : Kp B u (v.drewN m) := ⟨below_dn h.be m, h.ok⟩
theorem Kp.mono {B B' : Nat} {u v : World} (h : Kp B' u v) (hb : B ≤ B') : Kp B u v := ⟨h.be.mono hb, h.ok⟩
theorem Kp.of_below {B : Nat} {u v : World} (h : Below u.heap.size u v) (hb : B ≤ u.heap.size) : Kp B u v := ⟨h.mono hb, fun k _ hk _ _ => (h.block k (lt_of_heap hk)).trans hk⟩
theorem Kp.keep {B : Nat} {u v : World} (h : Kp B u v) {k : Nat} {cs : Array Value} {t : TypeId} {f : Nat × Nat} (hk : u.heap[k]? = some (.cells cs t f)) (ht : t ≠ 5) : v.heap[k]? = some (.cells cs t f) :=
  h.ok k _ hk (by simp) (fun c fz e => by simp at e; exact ht e.2.1)
theorem Kp.keepO {B : Nat} {u v : World} (h : Kp B u v) {k : Nat} {o : Obj} (hk : u.heap[k]? = some o) (ht : ∀ c fz, o ≠ .cells c 5 fz) : v.heap[k]? = some o := h.ok k _ hk (by simp) ht

/-- Bytes that a call owns, in a row of their own, from block B on. -/
def Bw (W : World) (B : Nat) (v : Value) (l : List UInt8) : Prop :=
  (v = .slice none 0 0 ∧ l = []) ∨ ∃ g cap cur fz, v = .slice (some ⟨g, 0, none⟩) l.length cap ∧ B ≤ g ∧ W.heap[g]? = some (.cells cur 5 fz) ∧ (fz.2 = 0 ∨ cur.size ≤ fz.1) ∧ l.length ≤ cap ∧ cap ≤ maxLen ∧ cur.size = cap ∧ cur.toList.take l.length = bc l
theorem Bw.nil (W : World) (B : Nat) : Bw W B (.slice none 0 0) [] := .inl ⟨rfl, rfl⟩
theorem Bw.of {W : World} {B n : Nat} {v : Value} {l : List UInt8} (h : W.ownsRow B 5 1 v n (bc l)) (hn : l.length = n) : Bw W B v l := by
  subst hn
  obtain ⟨-, ⟨rfl, hz⟩ | ⟨g, cap, cur, rfl, h2, h3, h4, h5, h6, h7⟩⟩ := h
  · exact .inl ⟨rfl, List.eq_nil_of_length_eq_zero hz⟩
  · exact .inr ⟨g, cap, cur, (0, 0), rfl, h2, h3, .inl rfl, h4, h5, by simpa using h6, by simpa using h7⟩
theorem Bw.base {W : World} {B B' : Nat} {v : Value} {l : List UInt8} (h : Bw W B' v l) (hb : B ≤ B') : Bw W B v l := by
  obtain h | ⟨g, cap, cur, fz, h1, h2, h3⟩ := h
  · exact .inl h
  · exact .inr ⟨g, cap, cur, fz, h1, Nat.le_trans hb h2, h3⟩
theorem Bw.keep {W W' : World} {B : Nat} {v : Value} {l : List UInt8} (h : Bw W B v l) (g : ∀ k, B ≤ k → k < W.heap.size → W'.heap[k]? = W.heap[k]?) : Bw W' B v l := by
  obtain h | ⟨b, cap, cur, fz, h1, h2, h3, h4⟩ := h
  · exact .inl h
  · exact .inr ⟨b, cap, cur, fz, h1, h2, (g b h2 (lt_of_heap h3)).trans h3, h4⟩
theorem Bw.below {W W' : World} {B : Nat} {v : Value} {l : List UInt8} (h : Bw W B v l) (g : Below W.heap.size W W') : Bw W' B v l := h.keep fun k _ hk => g.block k hk
theorem Bw.alloc {W : World} {B : Nat} {v : Value} {l : List UInt8} (h : Bw W B v l) (o : Obj) : Bw (W.alloc o) B v l := h.below ((Below.refl _ W).alloc (Nat.le_refl _) o)
/-- A store into a block that is no row of bytes. -/
theorem Bw.set {W : World} {B : Nat} {v : Value} {l : List UInt8} (h : Bw W B v l) {b i : Nat} {cs : Array Value} {t : TypeId} {f : Nat × Nat} (hb : W.heap[b]? = some (.cells cs t f)) (ht : t ≠ 5) (x : Value) : Bw (W.setCell ⟨b, i, none⟩ x) B v l := by
  obtain h | ⟨g, cap, cur, fz, h1, h2, h3, h4⟩ := h
  · exact .inl h
  · refine .inr ⟨g, cap, cur, fz, h1, h2, ?_, h4⟩
    rw [Below.heap_setCell _ _ _ _ ?_]
    · exact h3
    · rintro rfl
      rw [h3] at hb
      simp at hb
      exact ht hb.2.1.symm
theorem Bw.putO {W : World} {B : Nat} {v : Value} {l : List UInt8} (h : Bw W B v l) {b : Nat} {o : Obj} (hb : W.heap[b]? = some o) (ht : ∀ c fz, o ≠ .cells c 5 fz) (x : Obj) : Bw (W.putObj b x) B v l := by
  obtain h | ⟨g, cap, cur, fz, h1, h2, h3, h4⟩ := h
  · exact .inl h
  · refine .inr ⟨g, cap, cur, fz, h1, h2, ?_, h4⟩
    rw [World.putObj_heap_other ?_]
    · exact h3
    · rintro rfl
      rw [h3] at hb
      exact ht _ _ (Option.some.inj hb).symm
theorem Bw.form {W : World} {B : Nat} {v : Value} {l : List UInt8} (h : Bw W B v l) : ∃ a cap, v = .slice a l.length cap ∧ By W W.heap.size a l ∧ l.length ≤ cap ∧ cap ≤ maxLen := by
  obtain ⟨rfl, rfl⟩ | ⟨g, cap, cur, fz, rfl, h2, h3, h4, h5, h6, h7, h8⟩ := h
  · exact ⟨none, 0, rfl, By.nil _ _ _, Nat.le_refl _, by unfold maxLen; omega⟩
  · refine ⟨_, _, rfl, fun k c hk => ⟨g, 0, rfl, lt_of_heap h3, ?_⟩, h5, h6⟩
    have hk1 := (List.getElem?_eq_some_iff.1 hk).1
    rw [cell_of h3, Nat.zero_add, ← bc_get hk, ← h8, List.getElem?_take_of_lt hk1]
    simp
theorem Bw.len {W : World} {B n cap : Nat} {a : Option Addr} {l : List UInt8} (h : Bw W B (.slice a n cap) l) : n = l.length := by
  obtain ⟨a', c', e, -⟩ := h.form
  simp at e
  exact e.2.1

/-- Cells that are stored one behind the other into a row of which no cell is frozen there. -/
theorem storeCells_M (P : Program) (g o : Nat) (t : TypeId) (fz : Nat × Nat) : ∀ (vs : List Value) (i : Nat) (cur : Array Value) (w : World), w.heap[g]? = some (.cells cur t fz) → (fz.2 = 0 ∨ cur.size ≤ fz.1) → o + i + vs.length ≤ cur.size → (∀ v ∈ vs, v.oneCell' = true) →
    (storeCells ⟨g, o, none⟩ vs i).run P w = .ok () (w.setRow g (cur.toList.take (o + i) ++ vs ++ cur.toList.drop (o + i + vs.length)).toArray)
  | [], i, cur, w, hg, _, _, _ => by
    simp only [storeCells, List.append_nil, List.length_nil, Nat.add_zero, List.take_append_drop, Array.toArray_toList]
    rw [setRow_self w g cur t fz hg]
    rfl
  | v :: rest, i, cur, w, hg, hfz, hl, h1 => by
    have hi : o + i < cur.size := by simp at hl; omega
    have hadd := addAt g o i
    have hcell : w.cell? ⟨g, o + i, none⟩ = some cur[o + i] := by simp [World.cell?, hg, hi]
    have hfro : w.frozen? ⟨g, o + i, none⟩ = false := by
      obtain ⟨lo, hi'⟩ := fz
      simp only [World.frozen?, hg, Bool.and_eq_false_iff, decide_eq_false_iff_not]
      rcases hfz with hfz | hfz
      · right; simp only at hfz; omega
      · left; simp only at hfz; omega
    have hst : (store ((⟨g, o, none⟩ : Addr).add i) v).run P w = .ok () (w.setRow g (cur.setIfInBounds (o + i) v)) := by
      rw [hadd, run_store P w _ v _ (h1 v (by simp)), hcell]
      simp [hfro, setCell_eq_setRow w g (o + i) cur t fz v hg]
    have ih := storeCells_M P g o t fz rest (i + 1) (cur.setIfInBounds (o + i) v) (w.setRow g (cur.setIfInBounds (o + i) v)) (setRow_heap w g cur _ t _ hg) (by simpa using hfz) (by simp at hl ⊢; omega) (fun x hx => h1 x (by simp [hx]))
    simp only [storeCells, Sem.run_bind, hst, Result.andThen_ok, ih, setRow_setRow]
    congr 3
    have e := list_seg_step cur.toList (o + i) v rest (by simp at hl ⊢; omega)
    simpa [Array.toList_setIfInBounds, Nat.add_assoc] using e

theorem Kp.grown {B : Nat} {u w w' : World} {v : Value} {l : List UInt8} (h : Kp B u w) (hu : B ≤ u.heap.size) (hown : Bw w B v l) (g : w.grownBy w' v.ownBlock) : Kp B u w' := by
  have hs := h.be.size
  refine ⟨⟨g.os.trans h.be.os, g.tape.trans h.be.tape, g.output.trans h.be.output, Nat.le_trans hs g.size, fun k hk => ?_⟩, ?_⟩
  · rw [g.block k (by omega) ?_]
    · exact h.be.block k hk
    · intro e
      obtain ⟨rfl, -⟩ | ⟨b, cap, cur, fz, rfl, h2, -⟩ := hown
      · simp [Value.ownBlock] at e
      · simp [Value.ownBlock] at e; omega
  · intro k o hk hb ho
    have h1 := h.ok k o hk hb ho
    rw [g.block k (lt_of_heap h1) ?_]
    · exact h1
    · intro e
      obtain ⟨rfl, -⟩ | ⟨b, cap, cur, fz, rfl, h2, h3, -⟩ := hown
      · simp [Value.ownBlock] at e
      · simp [Value.ownBlock] at e
        subst e
        rw [h3] at h1
        exact ho _ _ (Option.some.inj h1).symm

theorem wpList_app {P : Program} {w : World} {ops : Array Oper} {rest : List Oper} {o : Oper} {a : Act} {Q : Exit → Act → World → Prop} (hgd : o.guard = none) (s x : Operand) (t t2 : TypeId)
    (ho : o.op = .call { callee := .builtin .append, args := #[s, x], argTypes := #[t, t2] }) (ty : TypeId) (hty : o.type = ty) (vs vx : Value) (hs : a.eval s = vs) (hx : a.eval x = vx) (v' : Value) (w' : World)
    (hrun : (Builtin.append_ #[t, t2] ty #[vs, vx]).run P w = .ok v' w') (h : wpList P ops Q rest (a.put o.dst v') w') : wpList P ops Q (o :: rest) a w := by
  refine wpList_plain hgd fun K hK => ?_
  unfold Oper.wp execOp
  simp only [ho, resolve, invoke, builtin, Sem.run_bind, Sem.run_pure, Result.andThen_ok, List.map_toArray, List.map_cons, List.map_nil, hs, hx, hty, hrun]
  exact hK _ _ h
section
variable {W : World} {B : Nat} {v : Value} {l : List UInt8}
theorem bc_len (l : List UInt8) : (bc l).length = l.length := Lib.byteCells_length l
theorem bc_app (a b : List UInt8) : bc (a ++ b) = bc a ++ bc b := Lib.byteCells_append a b
/-- An append: bytes behind bytes, wherever they lie. -/
theorem Bw.app (h : Bw W B v l) (hb : B ≤ W.heap.size) (ty : TypeId) (a : Option Addr) (m : List UInt8) (n c : Nat) (hn : n = m.length) (hm : By W W.heap.size a m) (hlen : l.length + m.length ≤ 140737488355328) :
    ∃ v' W', (Builtin.append_ #[26, 26] ty #[v, .slice a n c]).run Try.prog W = .ok v' W' ∧ Bw W' B v' (l ++ m) ∧ Kp B W W' := by
  subst hn
  have hi := info5
  obtain ⟨i, hi, hz0, hz1, hz2⟩ : ∃ i, Try.prog.info? 5 = some i ∧ i.zero = some (.int .u8 0) ∧ i.size = 1 ∧ i.bytes = 1 := by
    cases h5 : Try.prog.info? 5 with
    | none => rw [h5] at hi; simp at hi
    | some i => rw [h5] at hi; simp at hi; exact ⟨i, rfl, hi.1, hi.2.1, hi.2.2⟩
  have ht := Try.underlying26
  have hmax : (281474976710656 : Nat) ≤ maxLen := by decide
  cases m with
  | nil =>
    refine ⟨v, W, ?_, by simpa using h, Kp.refl _ _⟩
    obtain ⟨rfl, rfl⟩ | ⟨g, cap, cur, fz, rfl, h2, h3, h4, h5, h6, h7, h8⟩ := h
    · cases a <;> simp [Builtin.append_, run_underlying ht, sizeOf, typeInfo, hi, Builtin.lenOf, Builtin.firstCells, loadCells, loadCellsFrom]
    · cases a <;> simp [Builtin.append_, run_underlying ht, sizeOf, typeInfo, hi, Builtin.lenOf, Builtin.firstCells, loadCells, loadCellsFrom, h5, storeCells]
  | cons x m =>
    obtain ⟨sb, so, rfl, hsb, -⟩ := hm 0 x rfl
    have hnews : ∀ j u, (bc (x :: m))[j]? = some u → W.cell? ((⟨sb, so, none⟩ : Addr).add j) = some u := by
      intro j u hj
      have hj1 := (List.getElem?_eq_some_iff.1 hj).1
      rw [bc_len] at hj1
      obtain ⟨b', o', e1, -, h3⟩ := hm j _ (List.getElem?_eq_getElem hj1)
      simp at e1
      obtain ⟨rfl, rfl⟩ := e1
      rw [addAt, h3, ← hj]
      rw [bc_get (List.getElem?_eq_getElem hj1)]
    have hl1 : (bc (x :: m)).length = (x :: m).length * i.size := by rw [bc_len, hz1, Nat.mul_one]
    obtain ⟨rfl, rfl⟩ | ⟨g, cap, cur, fz, rfl, h2, h3, h4, h5, h6, h7, h8⟩ := h
    · obtain ⟨v', W', r1, r2, r3, -⟩ := run_append_own (P := Try.prog) W B 26 ty 5 i (.int .u8 0) 1 1 ht hi hz0 hz1 hz2 rfl (by decide) (.slice none 0 0) 0 [] (World.ownsRow_nil _ _ _ _) ⟨sb, so, none⟩ (x :: m).length c (bc (x :: m)) (by rw [bc_len, Nat.mul_one]) hnews (bc_one _) (by omega) (by simpa using hlen) hb
      refine ⟨v', W', r1, ?_, (Kp.refl B W).grown hb (Bw.nil W B) r3⟩
      exact Bw.of (n := 0 + (x :: m).length) (by simpa using r2) (by simp)
    · have hcl : ∀ j u, (bc l)[j]? = some u → W.cell? ((⟨g, 0, none⟩ : Addr).add j) = some u := by
        intro j u hj
        have hj1 := (List.getElem?_eq_some_iff.1 hj).1
        rw [bc_len] at hj1
        rw [addAt, cell_of h3, Nat.zero_add, ← hj, ← h8, List.getElem?_take_of_lt hj1]
        simp
      by_cases hroom : l.length + (x :: m).length ≤ cap
      · have hst := storeCells_M Try.prog g l.length 5 fz (bc (x :: m)) 0 cur W h3 h4 (by rw [bc_len]; omega) (bc_one _)
        have hf := run_firstCells_some (P := Try.prog) W i.size (x :: m).length ⟨sb, so, none⟩ (x :: m).length c (bc (x :: m)) hl1 hnews
        simp only [Nat.add_zero] at hst
        have hr : (Builtin.append_ #[26, 26] ty #[.slice (some ⟨g, 0, none⟩) l.length cap, .slice (some ⟨sb, so, none⟩) (x :: m).length c]).run Try.prog W = .ok (.slice (some ⟨g, 0, none⟩) (l.length + (x :: m).length) cap) (W.setRow g (cur.toList.take l.length ++ bc (x :: m) ++ cur.toList.drop (l.length + (bc (x :: m)).length)).toArray) := by
          generalize (x :: m).length = k at hroom hf ⊢
          simp [Builtin.append_, run_underlying ht, sizeOf, typeInfo, hi, hz1, Builtin.lenOf, hroom, Addr.add_lit]
          rw [hz1] at hf
          rw [hf]
          simp [hst]
        refine ⟨_, _, hr, .inr ⟨g, cap, _, fz, by rw [List.length_append], h2, setRow_heap W g cur _ 5 _ h3, ?_, by rw [List.length_append]; exact hroom, h6, ?_, ?_⟩, ?_⟩
        · simp only [List.size_toArray, List.length_append, List.length_take, List.length_drop, Array.length_toList, bc_len]
          rcases h4 with h4 | h4
          · exact .inl h4
          · right; omega
        · simp only [List.size_toArray, List.length_append, List.length_take, List.length_drop, Array.length_toList, bc_len]
          omega
        · rw [bc_app, ← h8]
          have e : (l ++ x :: m).length = (cur.toList.take l.length ++ bc (x :: m)).length := by
            simp [bc_len, List.length_take]; omega
          rw [e]
          exact List.take_left
        · exact (Kp.refl B W).grown hb (.inr ⟨g, cap, cur, fz, rfl, h2, h3, h4, h5, h6, h7, h8⟩) ⟨rfl, rfl, rfl, by simp, fun k _ hk => setRow_other W g k _ (fun e => hk (by simp [Value.ownBlock, e]))⟩
      · have hlo : (bc l).length = l.length * i.size := by rw [bc_len, hz1, Nat.mul_one]
        have hr := run_append_grow (P := Try.prog) W 26 ty 5 i (.int .u8 0) ht hi hz0 ⟨g, 0, none⟩ l.length cap (bc l) hlo hcl ⟨sb, so, none⟩ (x :: m).length c (bc (x :: m)) hl1 hnews (by omega) (by omega) (growslice_fits (by omega) (by rw [hz2]; omega))
        have hge := grownCap_ge W (l.length + (x :: m).length) cap 5
        have hcm2 : grownCap W (l.length + (x :: m).length) cap 5 ≤ maxLen := grownCap_le_maxLen W (l.length + (x :: m).length) cap 5 (by omega)
        refine ⟨_, _, hr, .inr ⟨W.heap.size, _, _, (0, 0), by rw [List.length_append], hb, heap_alloc_new W.drew _, .inl rfl, by rw [List.length_append]; exact hge, hcm2, ?_, ?_⟩, ?_⟩
        · simp only [Array.size_append, List.size_toArray, size_zeroCells, bc_len]
          have : (Value.int IntKind.u8 0).cells.size = 1 := rfl
          rw [this]
          omega
        · have e : (l ++ x :: m).length = (bc (l ++ x :: m)).length := (bc_len _).symm
          simp only [Array.toList_append, List.append_assoc]
          rw [e, bc_app, ← List.append_assoc]
          exact List.take_left
        · exact (Kp.refl B W).grown hb (.inr ⟨g, cap, cur, fz, rfl, h2, h3, h4, h5, h6, h7, h8⟩) ⟨rfl, rfl, rfl, by simp, fun k hk _ => Below.heap_alloc W.drew _ _ hk⟩
/-- An append of a text. -/
theorem Bw.str (h : Bw W B v l) (hb : B ≤ W.heap.size) (ty : TypeId) (m : List UInt8) (hlen : l.length + m.length ≤ 140737488355328) :
    ∃ v' W', (Builtin.append_ #[26, 9] ty #[v, S m]).run Try.prog W = .ok v' W' ∧ Bw W' B v' (l ++ m) ∧ Kp B W W' := by
  have hi := info5
  obtain ⟨i, hi, hz0, hz1, hz2⟩ : ∃ i, Try.prog.info? 5 = some i ∧ i.zero = some (.int .u8 0) ∧ i.size = 1 ∧ i.bytes = 1 := by
    cases h5 : Try.prog.info? 5 with
    | none => rw [h5] at hi; simp at hi
    | some i => rw [h5] at hi; simp at hi; exact ⟨i, rfl, hi.1, hi.2.1, hi.2.2⟩
  have ht := Try.underlying26
  have hu := Try.underlying9
  have hmax : (281474976710656 : Nat) ≤ maxLen := by decide
  have hms : (bs m).size = m.length := by simp [ByteArray.size]
  have hsc : Lib.strCells (bs m) = bc m := rfl
  obtain ⟨rfl, rfl⟩ | ⟨g, cap, cur, fz, rfl, h2, h3, h4, h5, h6, h7, h8⟩ := h
  · obtain ⟨v', W', r1, r2, r3, -⟩ := Lib.run_append_own_string (P := Try.prog) W B 26 9 ty 5 i ht hu hi hz0 hz1 hz2 (.slice none 0 0) 0 [] (World.ownsRow_nil _ _ _ _) (bs m) (by omega) (by omega) hb
    refine ⟨v', W', r1, ?_, (Kp.refl B W).grown hb (Bw.nil W B) r3⟩
    rw [hms, hsc] at r2
    exact Bw.of (n := 0 + m.length) (by simpa using r2) (by simp)
  · have hcl : ∀ j u, (bc l)[j]? = some u → W.cell? ((⟨g, 0, none⟩ : Addr).add j) = some u := by
      intro j u hj
      have hj1 := (List.getElem?_eq_some_iff.1 hj).1
      rw [bc_len] at hj1
      rw [addAt, cell_of h3, Nat.zero_add, ← hj, ← h8, List.getElem?_take_of_lt hj1]
      simp
    by_cases hroom : l.length + m.length ≤ cap
    · have hst := storeCells_M Try.prog g l.length 5 fz (bc m) 0 cur W h3 h4 (by rw [bc_len]; omega) (bc_one _)
      have hf := Lib.run_firstCells_string (P := Try.prog) W 1 (bs m)
      simp only [Nat.add_zero] at hst
      rw [hms, hsc] at hf
      have hr : (Builtin.append_ #[26, 9] ty #[.slice (some ⟨g, 0, none⟩) l.length cap, S m]).run Try.prog W = .ok (.slice (some ⟨g, 0, none⟩) (l.length + m.length) cap) (W.setRow g (cur.toList.take l.length ++ bc m ++ cur.toList.drop (l.length + (bc m).length)).toArray) := by
        simp [Builtin.append_, run_underlying ht, run_underlying hu, sizeOf, typeInfo, hi, hz1, Builtin.lenOf, hms, hroom, hf, Addr.add_lit, hst]
      refine ⟨_, _, hr, .inr ⟨g, cap, _, fz, by rw [List.length_append], h2, setRow_heap W g cur _ 5 _ h3, ?_, by rw [List.length_append]; exact hroom, h6, ?_, ?_⟩, ?_⟩
      · simp only [List.size_toArray, List.length_append, List.length_take, List.length_drop, Array.length_toList, bc_len]
        rcases h4 with h4 | h4
        · exact .inl h4
        · right; omega
      · simp only [List.size_toArray, List.length_append, List.length_take, List.length_drop, Array.length_toList, bc_len]
        omega
      · rw [bc_app, ← h8]
        have e : (l ++ m).length = (cur.toList.take l.length ++ bc m).length := by
          simp [bc_len, List.length_take]; omega
        rw [e]
        exact List.take_left
      · exact (Kp.refl B W).grown hb (.inr ⟨g, cap, cur, fz, rfl, h2, h3, h4, h5, h6, h7, h8⟩) ⟨rfl, rfl, rfl, by simp, fun k _ hk => setRow_other W g k _ (fun e => hk (by simp [Value.ownBlock, e]))⟩
    · have hlo : (bc l).length = l.length * i.size := by rw [bc_len, hz1, Nat.mul_one]
      have hr := Lib.run_append_grow_string (P := Try.prog) W 26 9 ty 5 i (.int .u8 0) ht hu hi hz0 ⟨g, 0, none⟩ l.length cap (bc l) hlo hcl (bs m) (by omega) (by omega) (growslice_fits (by omega) (by rw [hz2]; omega))
      rw [hms, hsc] at hr
      have hge := grownCap_ge W (l.length + m.length) cap 5
      have hcm2 : grownCap W (l.length + m.length) cap 5 ≤ maxLen := grownCap_le_maxLen W (l.length + m.length) cap 5 (by omega)
      refine ⟨_, _, hr, .inr ⟨W.heap.size, _, _, (0, 0), by rw [List.length_append], hb, heap_alloc_new W.drew _, .inl rfl, by rw [List.length_append]; exact hge, hcm2, ?_, ?_⟩, ?_⟩
      · simp only [Array.size_append, List.size_toArray, size_zeroCells, bc_len]
        have : (Value.int IntKind.u8 0).cells.size = 1 := rfl
        rw [this]
        omega
      · have e : (l ++ m).length = (bc (l ++ m)).length := (bc_len _).symm
        simp only [Array.toList_append, List.append_assoc]
        rw [e, bc_app, ← List.append_assoc]
        exact List.take_left
      · exact (Kp.refl B W).grown hb (.inr ⟨g, cap, cur, fz, rfl, h2, h3, h4, h5, h6, h7, h8⟩) ⟨rfl, rfl, rfl, by simp, fun k hk _ => Below.heap_alloc W.drew _ _ hk⟩
/-- An append of bytes that are laid for it. -/
theorem Bw.new (h : Bw W B v l) (hb : B ≤ W.heap.size) (ty : TypeId) (m : List UInt8) (n : Nat) (hn : n = m.length) (cs : Array Value) (hcs : cs = (bc m).toArray) (hlen : l.length + m.length ≤ 140737488355328) :
    ∃ v' W', (Builtin.append_ #[26, 26] ty #[v, .slice (some ⟨W.heap.size, 0, none⟩) n n]).run Try.prog (W.alloc (.cells cs 5)) = .ok v' W' ∧ Bw W' B v' (l ++ m) ∧ Kp B W W' := by
  subst hcs
  obtain ⟨v', W', h1, h2, h3⟩ := (h.alloc (.cells (bc m).toArray 5)).app (by simp; omega) ty (some ⟨W.heap.size, 0, none⟩) m n n hn (fun k c hk => ⟨W.heap.size, 0, rfl, by simp, by
    rw [cell_of (heap_alloc_new W _), Nat.zero_add, List.getElem?_toArray, bc_get hk]⟩) hlen
  exact ⟨v', W', h1, h2, ((Kp.refl B W).alloc hb _).trans h3⟩
end
end Go.Proofs.Ytlokihpegllddaa.Cl
