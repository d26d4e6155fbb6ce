/-
  What holds of the nodes and names of every tree.
-/
import Derived.Test.YtlngeaacjbdmhaaTrA
namespace Go.Proofs.Ytlngeaacjbdmhaa
open Go.RowKit Go.Maps

/-- The sum of f below n. -/
def sumF (n : Nat) (f : Nat → Nat) : Nat := match n with | 0 => 0 | n + 1 => sumF n f + f n
theorem sumF_congr {n : Nat} {f g : Nat → Nat} (h : ∀ k, k < n → f k = g k) : sumF n f = sumF n g := by
  induction n with
  | zero => rfl
  | succ n ih => simp only [sumF]; rw [ih fun k hk => h k (by omega), h n (by omega)]
theorem sumF_set {n i : Nat} {f g : Nat → Nat} (hi : i < n) (h : ∀ k, k < n → k ≠ i → f k = g k) : sumF n f + g i = sumF n g + f i := by
  induction n with
  | zero => omega
  | succ n ih =>
    simp only [sumF]
    by_cases e : i = n
    · subst e
      rw [sumF_congr fun k hk => h k (by omega) (by omega)]
      omega
    · have := ih (by omega) fun k hk hne => h k (by omega) hne
      have := h n (by omega) (by omega)
      omega
theorem sumF_le {n i : Nat} {f : Nat → Nat} (hi : i < n) : f i ≤ sumF n f := by
  induction n with
  | zero => omega
  | succ n ih =>
    simp only [sumF]
    by_cases e : i = n
    · subst e; omega
    · have := ih (by omega)
      omega
/-- How many names a node has in one Dir. -/
def cnt1 (o : Option Nd) (n : Int) : Nat := match o with | some x => x.ins.countP (fun e => decide (e.2 = n)) | none => 0
/-- How many names a node has. -/
def Tr.cntE (T : Tr) (n : Int) : Nat := sumF (T.made + 1) fun k => cnt1 (T.nd (k : Int)) n
/-- What holds at all times. B: no number is greater. -/
structure Wk (B : Nat) (T : Tr) : Prop where
  key : ∀ n x, T.nd n = some x → 1 ≤ n ∧ n ≤ T.made
  srt : ∀ n x, T.nd n = some x → Srt x.ins
  liv : ∀ n x, T.nd n = some x → ∀ e ∈ x.ins, (T.nd e.2).isSome = true
  made : T.made ≤ B
  bnd : ∀ n x, T.nd n = some x → x.names ≤ B ∧ x.holds ≤ B ∧ x.ins.length ≤ B
  nam : ∀ n x, T.nd n = some x → ∀ e ∈ x.ins, e.1.size ≤ 255
  txt : ∀ n x, T.nd n = some x → x.text.size ≤ 281474976710656
  fil : ∀ n x, T.nd n = some x → 0 ≤ x.file ∧ x.file ≤ B ∧ (x.kind ≠ 2 → x.file = 0)
  knd : ∀ n x, T.nd n = some x → 1 ≤ x.kind ∧ x.kind ≤ 3
  upw : ∀ n x, T.nd n = some x → 0 ≤ x.up ∧ x.up ≤ B
  num : ∀ n x, T.nd n = some x → x.names = T.cntE n + if n = 1 then 1 else 0
  pol : T.pool.fs.length ≤ B
  mst : T.most ≤ 64
theorem Wk.mono {B B' : Nat} {T : Tr} (h : Wk B T) (hb : B ≤ B') : Wk B' T :=
  ⟨h.key, h.srt, h.liv, Nat.le_trans h.made hb, fun n x hn => ⟨Nat.le_trans (h.bnd n x hn).1 hb, Nat.le_trans (h.bnd n x hn).2.1 hb, Nat.le_trans (h.bnd n x hn).2.2 hb⟩, h.nam, h.txt, fun n x hn => ⟨(h.fil n x hn).1, by have := (h.fil n x hn).2.1; omega, (h.fil n x hn).2.2⟩, h.knd, fun n x hn => ⟨(h.upw n x hn).1, by have := (h.upw n x hn).2; omega⟩, h.num, Nat.le_trans h.pol hb, h.mst⟩
theorem Wk.wf {B : Nat} {T : Tr} (h : Wk B T) (hB : B ≤ 900) {n : Int} {x : Nd} (hn : T.nd n = some x) : (kl n).wf = true := wf_of (by have := h.key n x hn; have := h.made; omega)
theorem Wk.ent {B : Nat} {T : Tr} (h : Wk B T) {n : Int} {x : Nd} (hn : T.nd n = some x) {e : Ent} (he : e ∈ x.ins) : ∃ y, T.nd e.2 = some y := Option.isSome_iff_exists.1 (h.liv n x hn e he)
theorem cntE_pos {B : Nat} {T : Tr} (h : Wk B T) {d : Int} {x : Nd} (hd : T.nd d = some x) {e : Ent} (he : e ∈ x.ins) : 0 < T.cntE e.2 := by
  obtain ⟨h1, h2⟩ := h.key d x hd
  have := sumF_le (n := T.made + 1) (i := d.toNat) (f := fun k => cnt1 (T.nd (k : Int)) e.2) (by omega)
  rw [show ((d.toNat : Nat) : Int) = d by omega, hd] at this
  have h3 : 0 < cnt1 (some x) e.2 := by
    simp only [cnt1]
    exact List.countP_pos_iff.2 ⟨e, he, by simp⟩
  simp only [Tr.cntE]
  omega
theorem Wk.sup {B : Nat} {T : Tr} (h : Wk B T) (k : Int) (e : (T.nd k).isSome = true) : 0 ≤ k ∧ k < ((T.made + 1 : Nat) : Int) := by
  obtain ⟨x, hx⟩ := Option.isSome_iff_exists.1 e
  have := h.key k x hx
  omega
end Go.Proofs.Ytlngeaacjbdmhaa
