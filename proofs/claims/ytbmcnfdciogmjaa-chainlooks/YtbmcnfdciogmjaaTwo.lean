/-
  Two tables beside one another; Same of two rows of strings.
-/
import Derived.Test.YtbmcnfdciogmjaaNumbers
import Derived.Test.YtbmcnfdciogmjaaIn
namespace Go.Proofs.Ytbmcnfdciogmjaa
open Go.RowKit Go.Sort
attribute [local go_sem ↓] Go.wp_at_zero Go.wp_at_succ

def Two (base : Nat) (w0 W : World) (bt n bu l : Nat) (m q : Pairs) : Prop :=
  ∃ bh ch bg cg, Tb base W bt bh n ch m ∧ Tb base W bu bg l cg q ∧ (∀ k, Own bt bh n ch k → ¬ Own bu bg l cg k) ∧ Below base w0 W
section
variable {base : Nat} {w0 W W' : World} {bt n bu l : Nat} {m q : Pairs}
theorem Two.symm (h : Two base w0 W bt n bu l m q) : Two base w0 W bu l bt n q m := by
  obtain ⟨bh, ch, bg, cg, h1, h2, h3, h4⟩ := h
  exact ⟨bg, cg, bh, ch, h2, h1, fun k hk hk2 => h3 k hk2 hk, h4⟩
theorem Two.below (h : Two base w0 W bt n bu l m q) (g : Below W.heap.size W W') : Two base w0 W' bt n bu l m q := by
  obtain ⟨bh, ch, bg, cg, h1, h2, h3, h4⟩ := h
  exact ⟨bh, ch, bg, cg, h1.below g, h2.below g, h3, h4.trans (g.mono (by have := h1.kt; have := h1.own_lt (k := bt) (.inl rfl); omega))⟩
theorem Two.left (h : Two base w0 W bt n bu l m q) : Tbl base w0 W bt n m := by
  obtain ⟨bh, ch, bg, cg, h1, h2, h3, h4⟩ := h
  exact ⟨bh, ch, h1, h4⟩
theorem Two.bel (h : Two base w0 W bt n bu l m q) : Below base w0 W := h.left.bel
theorem Two.start (h : Tbl base w0 W bt n m) (g : Tbl W.heap.size W W' bu l q) : Two base w0 W' bt n bu l m q := by
  obtain ⟨bh, ch, h1, h2⟩ := h
  obtain ⟨bg, cg, g1, g2⟩ := g
  have hle : base ≤ W.heap.size := by have := h1.kt; have := h1.own_lt (k := bt) (.inl rfl); omega
  refine ⟨bh, ch, bg, cg, h1.below g2, ?_, fun k hk hk2 => ?_, h2.trans (g2.mono hle)⟩
  · exact ⟨g1.hb, g1.lo, g1.hi, g1.path, g1.off0, g1.nbh, g1.slot, g1.mem, g1.nod, g1.mnod, g1.mlen, Nat.le_trans hle g1.kt, Nat.le_trans hle g1.kh, fun i x hi hx => Nat.le_trans hle (g1.kx i x hi hx), g1.ty⟩
  · have a := h1.own_lt hk
    have b := g1.own_base hk2
    omega
theorem Two.mv {m' : Pairs} {bh : Nat} {ch : Nat → List E} {bg : Nat} {cg ch' : Nat → List E} (h1 : Tb base W bt bh n ch m) (h2 : Tb base W bu bg l cg q) (h3 : ∀ k, Own bt bh n ch k → ¬ Own bu bg l cg k) (h4 : Below base w0 W) (hT : Tb base W' bt bh n ch' m') (hM : Mv W W' bt bh n ch ch') : Two base w0 W' bt n bu l m' q := by
  obtain ⟨S, hS, ho⟩ := hM.fr
  refine ⟨bh, ch', bg, cg, hT, h2.fr hS fun p hp => h3 _ (ho p hp), fun k hk hk2 => ?_, hM.below h1 h4⟩
  rcases hM.own k hk with hk | hk
  · exact h3 k hk hk2
  · have := h2.own_lt hk2; omega
theorem put_two (key : ByteArray) (v : Int) (hs : key.size ≤ 9223372036854775807) (h : Two base w0 W bt n bu l m q) :
    Calls Try.prog 10 #[.pointer (some ⟨bt, 0, none⟩), .string key, .int .i64 v] W fun e w' => e = .returned (.int .i64 (putE m key)) ∧ Two base w0 w' bt n bu l (putM m key v) q := by
  obtain ⟨bh, ch, bg, cg, h1, h2, h3, h4⟩ := h
  exact (put_any base bt bh n ch m key v hs W h1).mono fun e w' ⟨he, ch', hT', hM⟩ => ⟨he, Two.mv h1 h2 h3 h4 hT' hM⟩
theorem drop_two (key : ByteArray) (hs : key.size ≤ 9223372036854775807) (h : Two base w0 W bt n bu l m q) :
    Calls Try.prog 9 #[.pointer (some ⟨bt, 0, none⟩), .string key] W fun e w' => e = .returned (.tuple #[.int .i64 (val m key), .int .i64 (dropE m key)]) ∧ Two base w0 w' bt n bu l (drop m key) q := by
  obtain ⟨bh, ch, bg, cg, h1, h2, h3, h4⟩ := h
  exact (drop_any base bt bh n ch m key hs W h1).mono fun e w' ⟨he, ch', hT', hM⟩ => ⟨he, Two.mv h1 h2 h3 h4 hT' hM⟩
theorem get_two (key : ByteArray) (hs : key.size ≤ 9223372036854775807) (h : Two base w0 W bt n bu l m q) :
    Calls Try.prog 22 #[.pointer (some ⟨bt, 0, none⟩), .string key] W fun e w' => e = .returned (.tuple #[.int .i64 (val m key), .bool (has m key)]) ∧ Two base w0 w' bt n bu l m q ∧ Below W.heap.size W w' :=
  (get_T key hs h.left).mono fun _ _ ⟨he, _, hB⟩ => ⟨he, h.below hB, hB⟩
end

/-- Strings that came in, as a list. -/
def StrL (W : World) (pa : Option Addr) (kl : List ByteArray) : Prop := ∀ (k : Nat) (s : ByteArray), kl[k]? = some s → ∃ b off, pa = some ⟨b, off, none⟩ ∧ b < W.heap.size ∧ W.cell? ⟨b, off + k, none⟩ = some (.string s) ∧ s.size ≤ 9223372036854775807
theorem StrL.below {W W' : World} {pa : Option Addr} {kl : List ByteArray} (h : StrL W pa kl) (g : Below W.heap.size W W') : StrL W' pa kl := fun k s hk => by
  obtain ⟨b, off, h1, h2, h3, h4⟩ := h k s hk
  exact ⟨b, off, h1, Nat.lt_of_lt_of_le h2 g.size, (cell_same (g.block b h2) _).trans h3, h4⟩
theorem list_of {α : Type} {P : Nat → α → Prop} : ∀ len, (∀ i, i < len → ∃ j, P i j) → ∃ js : List α, js.length = len ∧ ∀ k j, js[k]? = some j → P k j := by
  intro len
  induction len with
  | zero => intro _; exact ⟨[], rfl, fun k j h => by simp at h⟩
  | succ n ih =>
    intro h
    obtain ⟨js, hl, hj⟩ := ih (fun i hi => h i (by omega))
    obtain ⟨j, hjn⟩ := h n (by omega)
    refine ⟨js ++ [j], by simp [hl], fun k x hx => ?_⟩
    rcases Nat.lt_or_ge k n with hk | hk
    · rw [List.getElem?_append_left (by omega)] at hx
      exact hj k x hx
    · have hkl := (List.getElem?_eq_some_iff.1 hx).1
      simp [hl] at hkl
      obtain rfl : k = n := by omega
      rw [List.getElem?_append_right (by omega)] at hx
      simp [hl] at hx
      subst hx
      exact hjn
theorem StrsAt.list {W : World} {pa : Option Addr} {len : Nat} (h : StrsAt W pa len) : ∃ kl : List ByteArray, kl.length = len ∧ StrL W pa kl := by
  apply list_of
  intro i hi
  obtain ⟨b, off, s, h1, h2, h3, h4⟩ := h.2 i hi
  exact ⟨s, b, off, h1, h2, h3, h4⟩

/-- A row of strings. -/
def RowO (W : World) (pa : Option Addr) (kl : List ByteArray) : Prop := ∀ (k : Nat) (s : ByteArray), kl[k]? = some s → ∃ b off, pa = some ⟨b, off, none⟩ ∧ b < W.heap.size ∧ W.cell? ⟨b, off + k, none⟩ = some (.string s)
theorem RowO.below {W W' : World} {pa : Option Addr} {kl : List ByteArray} (h : RowO W pa kl) (g : Below W.heap.size W W') : RowO W' pa kl := fun k s hk => by
  obtain ⟨b, off, h1, h2, h3⟩ := h k s hk
  exact ⟨b, off, h1, Nat.lt_of_lt_of_le h2 g.size, (cell_same (g.block b h2) _).trans h3⟩
def ofB (l : List UInt8) : ByteArray := ⟨l.toArray⟩
theorem RowO.of_own {W : World} {base : Nat} {g cap n : Nat} {ks : List (List UInt8)} (h : W.ownsRow base 9 1 (.slice (some ⟨g, 0, none⟩) n cap) n (ks.map encStr)) : RowO W (some ⟨g, 0, none⟩) (ks.map ofB) := fun k s hk => by
  rw [List.getElem?_map] at hk
  obtain ⟨l, hl, rfl⟩ := Option.map_eq_some_iff.1 hk
  have hc := own_get h k (encStr l) (by rw [List.getElem?_map, hl]; rfl)
  exact ⟨g, 0, rfl, lt_of_cell hc, by rw [Nat.zero_add]; exact hc⟩
set_option maxHeartbeats 1000000 in
theorem same_yes (pa pb : Option Addr) (c c' L : Nat) (kl : List ByteArray) (hll : kl.length = L) (hl : L ≤ 1000000) (w : World) (h : RowO w pa kl) (h' : RowO w pb kl) :
    Calls Try.prog 25 #[.slice pa L c, .slice pb L c'] w fun e w' => e = .returned (.bool true) ∧ Below w.heap.size w w' := by
  have H := hide h
  have H' := hide h'
  clear h h'
  replace hll := hide hll
  go_enter Try.func25, Try.ntmps25
  go_wp2_with fail
  go_loopw [5] (fun i wr => ∃ j : Nat, j ≤ L ∧ i = .int .i64 j ∧ ∃ m, wr = w.drewN m) (fun i _ => L - (intOf i).toNat)
  case atStart => exact ⟨0, by omega, rfl, 0, rfl⟩
  case round =>
    obtain ⟨j, hj, rfl, m, rfl⟩ := hrel
    by_cases hlt : j < L
    · have j0 : (0 : Int) ≤ (j : Int) := by omega
      have j1 : (j : Int) < (L : Int) := by omega
      obtain ⟨s, hs⟩ : ∃ s, kl[j]? = some s := ⟨_, List.getElem?_eq_getElem (by rw [unhide hll]; exact hlt)⟩
      obtain ⟨b, off, rfl, -, c1⟩ := (unhide H) j s hs
      obtain ⟨b', off', rfl, -, c2⟩ := (unhide H') j s hs
      clear hs
      go_wp2_with fail
      go_quiet (fail)
      go_wp2_with fail
      exact ⟨⟨j + 1, by omega, rfl, m + nq, by simp [World.drewN]⟩, by simp [intOf]; omega⟩
    · have j1 : ¬ (j : Int) < (L : Int) := by omega
      go_wp2_with fail
      go_ret
      exact ⟨rfl, below_dn (Below.refl _ w) m⟩
end Go.Proofs.Ytbmcnfdciogmjaa
