/-
  The calls of a tree that is well formed, with named answers.
-/
import Derived.Test.YtlngeaacjbdmhaaPart
import Derived.Test.YtlngeaacjbdmhaaMake
import Derived.Test.YtlngeaacjbdmhaaNewT
import Derived.Test.YtlngeaacjbdmhaaStat
import Derived.Test.YtlngeaacjbdmhaaLive
namespace Go.Proofs.Ytlngeaacjbdmhaa
open Go.RowKit Go.Maps

theorem Tr.stat_form (T : Tr) (n : Int) : ∃ a b c d e f g, T.stat n = stV a b c d e f g := by
  simp only [Tr.stat]
  split
  · exact ⟨_, _, _, _, _, _, _, rfl⟩
  · exact ⟨_, _, _, _, _, _, _, rfl⟩
/-- A tree in its blocks, well formed. -/
structure Tq (lo N : Nat) (W : World) (t : Nat) (T : Tr) (B : Nat) : Prop where
  p : Tp lo N W t T
  f : Wf B T
section
variable {lo N : Nat} {W W' : World} {t : Nat} {T : Tr} {B : Nat}
theorem Tq.below (h : Tq lo N W t T B) (g : Below W.heap.size W W') : Tq lo N W' t T B := ⟨h.p.below g, h.f⟩
theorem Tq.lo_le (h : Tq lo N W t T B) : lo ≤ W.heap.size := h.p.lo_le
theorem Tq.mono (h : Tq lo N W t T B) {B' : Nat} (hb : B ≤ B') : Tq lo N W t T B' := ⟨h.p, h.f.mono hb⟩
theorem Tq.tb (h : Tq lo N W t T B) (g : Below W.heap.size W W') : Tq lo N W' t T B ∧ Tx lo W W' := ⟨h.below g, .of_below g h.lo_le⟩
theorem Tq.wf (h : Tq lo N W t T B) {n : Int} (hB : B ≤ 880) {x : Nd} (hx : T.nd n = some x) : (kl n).wf = true := h.f.k.wf (by omega) hx
theorem new_Q (nodes blocks : Nat) (hn : 1 ≤ nodes ∧ nodes ≤ 64) (hb : blocks ≤ 256) (w : World) :
    Calls Try.prog 4 #[I (nodes : Int), I (blocks : Int)] w fun e w' => ∃ t, e = .returned (.tuple #[P0 t, I 0]) ∧ Hid (Tq w.heap.size blocks w' t (Tr.new nodes blocks) 1) ∧ Hid (Below w.heap.size w w') :=
  (new_good' nodes blocks hn hb w).mono fun _ _ ⟨t, h1, h2, h3⟩ => ⟨t, h1, ⟨h2, Wf.new _ _ (Tr.new_wk nodes blocks hn)⟩, h3⟩
theorem make_Q (h : Tq lo N W t T B) (hB : B ≤ 880) {dir : Int} (hn : (kl dir).wf = true) (s : ByteArray) (a kind mode uid gid f g : Int) (text : ByteArray) (hz : text.size ≤ 281474976710656) (x y : Int) (T' : Tr) (hx : T.makeN dir s kind text = x) (hy : T.makeE dir s kind text = y) (hT : T.make dir s kind mode uid gid text = T') :
    Calls Try.prog 7 #[P0 t, I dir, .string s, stV a kind mode uid gid f g, .string text] W fun e w' => e = .returned (.tuple #[I x, I y]) ∧ Hid (Tq lo N w' t T' (B + 2)) ∧ Hid (Tx lo W w') := by
  obtain ⟨⟨q, p, nb, ev, h1⟩, h2⟩ := h
  refine (make_any h1 h2.k (by omega) hn s a kind mode uid gid f g text hz).mono ?_
  rintro e w' ⟨rfl, h3, h4⟩
  rw [hx, hy]
  have := h2.make dir s kind mode uid gid text hz
  rw [hT] at this h3
  exact ⟨rfl, ⟨h3, this⟩, h4⟩
theorem part_Q (h : Tq lo N W t T B) (hB : B ≤ 880) {dir : Int} (hn : (kl dir).wf = true) (s : ByteArray) (y : Int) (T' : Tr) (hy : T.partE dir s = y) (hT : T.part dir s = T') :
    Calls Try.prog 9 #[P0 t, I dir, .string s] W fun e w' => e = .returned (I y) ∧ Hid (Tq lo N w' t T' B) ∧ Hid (Tx lo W w') := by
  obtain ⟨⟨q, p, nb, ev, h1⟩, h2⟩ := h
  refine (part_any h1 h2.k (by omega) hn s (fun d hd e => h2.noself hd (getE_some e))).mono ?_
  rintro e w' ⟨rfl, h3, h4⟩
  rw [hy]
  have := h2.part dir s
  rw [hT] at this h3
  exact ⟨rfl, ⟨h3, this⟩, h4⟩
theorem hold_Q (h : Tq lo N W t T B) (hB : B ≤ 880) {n : Int} (hn : (kl n).wf = true) (y : Int) (T' : Tr) (hy : T.holdE n = y) (hT : T.hold n = T') :
    Calls Try.prog 11 #[P0 t, I n] W fun e w' => e = .returned (I y) ∧ Hid (Tq lo N w' t T' (B + 1)) ∧ Hid (Tx lo W w') := by
  obtain ⟨⟨q, p, nb, ev, h1⟩, h2⟩ := h
  refine (hold_any h1 hn (fun x hx => by have := (h2.k.bnd n x hx).2.1; omega)).mono ?_
  rintro e w' ⟨rfl, ev', h3, h4⟩
  rw [hy]
  have := h2.hold n
  rw [hT] at this h3
  exact ⟨rfl, ⟨⟨q, p, nb, ev', h3⟩, this⟩, h4⟩
theorem loose_Q (h : Tq lo N W t T B) (hB : B ≤ 880) {n : Int} (hn : (kl n).wf = true) (y : Int) (T' : Tr) (hy : T.looseE n = y) (hT : T.loose n = T') :
    Calls Try.prog 12 #[P0 t, I n] W fun e w' => e = .returned (I y) ∧ Hid (Tq lo N w' t T' B) ∧ Hid (Tx lo W w') := by
  obtain ⟨⟨q, p, nb, ev, h1⟩, h2⟩ := h
  refine (loose_any (B := B) h1 (by omega) hn (fun x hx => ⟨by have := (h2.k.bnd n x hx).2.1; omega, (h2.k.fil n x hx).1, (h2.k.fil n x hx).2.1⟩)).mono ?_
  rintro e w' ⟨rfl, ev', h3, h4⟩
  rw [hy]
  have := h2.loose n
  rw [hT] at this h3
  exact ⟨rfl, ⟨⟨q, p, nb, ev', h3⟩, this⟩, h4⟩
theorem find_Q (h : Tq lo N W t T B) (hB : B ≤ 880) {n : Int} (hn : (kl n).wf = true) (s : ByteArray) (x : Int) (f : Bool) (hx : (T.findN n s).getD 0 = x) (hf : (T.findN n s).isSome = f) :
    Calls Try.prog 15 #[P0 t, I n, .string s] W fun e w' => e = .returned (.tuple #[I x, .bool f]) ∧ Hid (Tq lo N w' t T B) ∧ Hid (Below W.heap.size W w') := by
  have h' := h
  obtain ⟨⟨q, p, nb, ev, h1⟩, h2⟩ := h
  refine (tfind_any h1 h2.k (by omega) hn s).mono ?_
  rintro e w' ⟨rfl, h3⟩
  rw [hx, hf]
  exact ⟨rfl, h'.below h3, h3⟩
theorem stat_Q (h : Tq lo N W t T B) (hB : B ≤ 880) {n : Int} (hn : (kl n).wf = true) (v : Value) (f : Bool) (hx : T.stat n = v) (hf : (T.nd n).isSome = f) :
    Calls Try.prog 16 #[P0 t, I n] W fun e w' => e = .returned (.tuple #[v, .bool f]) ∧ Hid (Tq lo N w' t T B) ∧ Hid (Below W.heap.size W w') := by
  have h' := h
  obtain ⟨⟨q, p, nb, ev, h1⟩, h2⟩ := h
  refine (stat_any h1 h2.k (by omega) hn).mono ?_
  rintro e w' ⟨rfl, h3⟩
  rw [hx, hf]
  exact ⟨rfl, h'.below h3, h3⟩
theorem left_Q (h : Tq lo N W t T B) (hB : B ≤ 880) (y : Int) (hy : T.left = y) :
    Calls Try.prog 13 #[P0 t] W fun e w' => e = .returned (I y) ∧ Hid (Tq lo N w' t T B) ∧ Hid (Below W.heap.size W w') := by
  have h' := h
  obtain ⟨⟨q, p, nb, ev, h1⟩, h2⟩ := h
  refine (left_any h1 h2.k (by omega)).mono ?_
  rintro e w' ⟨rfl, k, rfl⟩
  rw [hy]
  exact ⟨rfl, h'.below (below_n _ k), below_n _ k⟩
theorem live_Q (h : Tq lo N W t T B) (hB : B ≤ 880) :
    Calls Try.prog 6 #[P0 t] W fun e w' => ∃ v, e = .returned v ∧ Hid (Ri W.heap.size w' v T.livesI) ∧ Hid (Tq lo N w' t T B) ∧ Hid (Below W.heap.size W w') := by
  have h' := h
  obtain ⟨⟨q, p, nb, ev, h1⟩, h2⟩ := h
  refine (live_any h1 h2.k (by omega)).mono ?_
  rintro e w' ⟨v, rfl, h3, h4⟩
  exact ⟨v, rfl, h3, h'.below h4, h4⟩
theorem Tx.fst {u v : World} (h : Tx lo u v) {w : World} {B0 : Nat} (g : Below B0 w u) (hb : B0 ≤ lo) : Below B0 w v := g.trans (h.bel.mono hb)
end
end Go.Proofs.Ytlngeaacjbdmhaa
