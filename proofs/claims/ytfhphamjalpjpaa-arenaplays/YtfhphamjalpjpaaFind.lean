/-
  The contract of find: the slot that a handle names, or why it is refused; what is refused as gone is counted.
-/
import Derived.Test.YtfhphamjalpjpaaBase
namespace Go.Proofs.Ytfhphamjalpjpaa
open Go.RowKit
attribute [local go_sem ↓] Go.wp_at_zero Go.wp_at_succ

theorem below_dn {B : Nat} {u w : World} (h : Below B u w) (m : Nat) : Below B u (w.drewN m) := ⟨h.os, h.tape, h.output, h.size, h.block⟩
theorem Fr.dn {b c d : Nat} {u w : World} (h : Fr b c d u w) (m : Nat) : Fr b c d u (w.drewN m) := ⟨h.os, h.tape, h.output, h.size, h.block⟩
theorem Ar.dn {W : World} {b c d n : Nat} {gs : List Slot} {q : List Nat} {st : Int} (h : Ar W b c d n gs q st) (m : Nat) : Ar (W.drewN m) b c d n gs q st := h.of rfl rfl rfl

/-- A handle in a box. -/
theorem boxed (w : World) (s x : Int) (t : TypeId) : ∃ V, w.alloc (.cells #[.int .i64 s, .int .i64 x] t) = V ∧ V.cell? ⟨w.heap.size, 0, none⟩ = some (.int .i64 s) ∧ V.cell? ⟨w.heap.size, 1, none⟩ = some (.int .i64 x) ∧ (∀ i, V.frozen? ⟨w.heap.size, i, none⟩ = false) ∧ Below w.heap.size w V ∧ V.heap.size = w.heap.size + 1 := by
  have h := putAll (w := w) (.cells #[.int .i64 s, .int .i64 x] t) w.heap.size rfl
  exact ⟨_, rfl, by rw [cell_of h]; rfl, by rw [cell_of h]; rfl, frozen_of h, (Below.refl _ _).alloc (Nat.le_refl _) _, by simp⟩

set_option maxRecDepth 100000 in
set_option maxHeartbeats 1000000 in
theorem find_arg (b c d n : Nat) (gs : List Slot) (q : List Nat) (st s x : Int) (w : World) (h : Ar w b c d n gs q st) (hs : s < 0 ∨ (n : Int) ≤ s) :
    Calls Try.prog 26 #[.pointer (some ⟨b, 0, none⟩), .agg #[.int .i64 s, .int .i64 x]] w fun e w' => e = .returned (.tuple #[.pointer none, .int .i64 1]) ∧ Below w.heap.size w w' := by
  obtain ⟨V, hV, v0, v1, vf, hB, hz⟩ := boxed w s x 29
  obtain ⟨h0, h1, h2, hf⟩ := (h.below hB).cells
  clear h
  go_enter Try.func26, Try.ntmps26
  go_wp2_with fail
  clear hV
  by_cases hs0 : s < 0
  · clear hs
    go_quiet (fail)
    go_wp2_with fail
    go_ret2
    exact ⟨rfl, below_dn hB _⟩
  · have hn : (n : Int) ≤ s := by omega
    clear hs
    go_quiet (fail)
    go_wp2_with fail
    go_ret2
    exact ⟨rfl, below_dn hB _⟩

/-- What find is told of an arena, a slot and a handle in a box. -/
structure FA (w U : World) (b c d n k : Nat) (gs : List Slot) (q : List Nat) (st g x : Int) : Prop where
  ar : Ar U b c d n gs q st
  be : Below w.heap.size w U
  v0 : U.cell? ⟨w.heap.size, 0, none⟩ = some (.int .i64 (k : Int))
  v1 : U.cell? ⟨w.heap.size, 1, none⟩ = some (.int .i64 x)
  h0 : U.cell? ⟨b, 0, none⟩ = some (.slice (some ⟨c, 0, none⟩) n n)
  h2 : U.cell? ⟨b, 2, none⟩ = some (.int .i64 st)
  hf : ∀ i, U.frozen? ⟨b, i, none⟩ = false
  s0 : U.cell? ⟨c, k * 2, none⟩ = some (.int .i64 g)
theorem FA.dn {w U : World} {b c d n k : Nat} {gs : List Slot} {q : List Nat} {st g x : Int} (h : FA w U b c d n k gs q st g x) (m : Nat) : ∃ U', U.drewN m = U' ∧ FA w U' b c d n k gs q st g x :=
  ⟨_, rfl, h.ar.dn m, below_dn h.be m, h.v0, h.v1, h.h0, h.h2, h.hf, h.s0⟩

set_option maxRecDepth 100000 in
set_option maxHeartbeats 1000000 in
theorem find_ok (b c d n k : Nat) (gs : List Slot) (q : List Nat) (st g v : Int) (w : World) (h : Ar w b c d n gs q st) (hk : gs[k]? = some (g, v)) (g0 : 0 ≤ g) (g1 : g % 2 = 1) :
    Calls Try.prog 26 #[.pointer (some ⟨b, 0, none⟩), .agg #[.int .i64 (k : Int), .int .i64 g]] w fun e w' => e = .returned (.tuple #[.pointer (some ⟨c, k * 2, none⟩), .int .i64 0]) ∧ Below w.heap.size w w' := by
  obtain ⟨V, hV, v0, v1, vf, hB, hz⟩ := boxed w (k : Int) g 29
  have hA := h.below hB
  obtain ⟨h0, h1, h2, hf⟩ := hA.cells
  obtain ⟨s0, s1, sf⟩ := hA.slot hk
  have k1 : k < n := h.klt hk
  have k2 : (k : Int) < (n : Int) := by omega
  have k3 : (0 : Int) ≤ (k : Int) := by omega
  have k4 : ((n : Int) ≤ (k : Int)) = False := by simp; omega
  have k5 : (n ≤ k) = False := by simp; omega
  have HL : Hid (∀ U : World, U.cell? ⟨c, k * 2, none⟩ = some (.int .i64 g) → Calls Try.prog 30 #[.pointer (some ⟨c, k * 2, none⟩)] U fun e w' => e = .returned (.bool true) ∧ w' = U) := fun U hU => live_yes _ g _ hU g0 g1
  have f1 : FA w V b c d n k gs q st g g := ⟨hA, hB, v0, v1, h0, h2, hf, s0⟩
  clear h hA g0 g1 hk hB h1 s1 sf hz vf
  go_enter Try.func26, Try.ntmps26
  go_wp2_with fail
  clear hV
  go_quiet (fail)
  go_wp2_with fail
  obtain ⟨V2, e2, f2⟩ := f1.dn nq
  rw [e2]
  clear e2 f1 v0 v1 h0 h2 hf s0
  have v0 := f2.v0
  have h0 := f2.h0
  go_quiet (fail)
  go_wp2_with fail
  obtain ⟨V3, e3, f3⟩ := f2.dn nq
  rw [e3]
  clear e3 f2 v0 h0
  have v1 := f3.v1
  have h2 := f3.h2
  have hf := f3.hf
  have s0 := f3.s0
  go_quiet ((go_at_call 30; exact Calls.quiet_of_same (unhide HL _ s0)))
  go_wp2_with fail
  go_ret2
  exact ⟨rfl, below_dn f3.be _⟩

set_option maxRecDepth 100000 in
set_option maxHeartbeats 1000000 in
theorem find_gone1 (b c d n k : Nat) (gs : List Slot) (q : List Nat) (st g v x : Int) (w : World) (h : Ar w b c d n gs q st) (hk : gs[k]? = some (g, v)) (g0 : 0 ≤ g) (g1 : ¬ g % 2 = 1) (s0' : 0 ≤ st) (s1' : st ≤ 1000000) :
    Calls Try.prog 26 #[.pointer (some ⟨b, 0, none⟩), .agg #[.int .i64 (k : Int), .int .i64 x]] w fun e w' => e = .returned (.tuple #[.pointer none, .int .i64 14]) ∧ Ar w' b c d n gs q (st + 1) ∧ Fr b c d w w' := by
  obtain ⟨V, hV, v0, v1, vf, hB, hz⟩ := boxed w (k : Int) x 29
  have hA := h.below hB
  obtain ⟨h0, h1, h2, hf⟩ := hA.cells
  obtain ⟨s0, s1, sf⟩ := hA.slot hk
  have k1 : k < n := h.klt hk
  have k2 : (k : Int) < (n : Int) := by omega
  have k3 : (0 : Int) ≤ (k : Int) := by omega
  have k4 : ((n : Int) ≤ (k : Int)) = False := by simp; omega
  have k5 : (n ≤ k) = False := by simp; omega
  have HL : Hid (∀ U : World, U.cell? ⟨c, k * 2, none⟩ = some (.int .i64 g) → Calls Try.prog 30 #[.pointer (some ⟨c, k * 2, none⟩)] U fun e w' => e = .returned (.bool false) ∧ w' = U) := fun U hU => live_no _ g _ hU g0 g1
  have f1 : FA w V b c d n k gs q st g x := ⟨hA, hB, v0, v1, h0, h2, hf, s0⟩
  clear h hA g0 g1 hk hB h1 s1 sf hz vf
  go_enter Try.func26, Try.ntmps26
  go_wp2_with fail
  clear hV
  go_quiet (fail)
  go_wp2_with fail
  obtain ⟨V2, e2, f2⟩ := f1.dn nq
  rw [e2]
  clear e2 f1 v0 v1 h0 h2 hf s0
  have v0 := f2.v0
  have h0 := f2.h0
  go_quiet (fail)
  go_wp2_with fail
  obtain ⟨V3, e3, f3⟩ := f2.dn nq
  rw [e3]
  clear e3 f2 v0 h0
  have v1 := f3.v1
  have h2 := f3.h2
  have hf := f3.hf
  have s0 := f3.s0
  go_quiet ((go_at_call 30; exact Calls.quiet_of_same (unhide HL _ s0)))
  go_wp2_with fail
  go_ret2
  exact ⟨rfl, (f3.ar.dn _).setStale _, ((Fr.of_below (b := b) (c := c) (d := d) f3.be).dn _).set (p := ⟨b, 2, none⟩) (.inl rfl) _⟩

set_option maxRecDepth 100000 in
set_option maxHeartbeats 1000000 in
theorem find_gone2 (b c d n k : Nat) (gs : List Slot) (q : List Nat) (st g v x : Int) (w : World) (h : Ar w b c d n gs q st) (hk : gs[k]? = some (g, v)) (g0 : 0 ≤ g) (g1 : g % 2 = 1) (hx : ¬ g = x) (s0' : 0 ≤ st) (s1' : st ≤ 1000000) :
    Calls Try.prog 26 #[.pointer (some ⟨b, 0, none⟩), .agg #[.int .i64 (k : Int), .int .i64 x]] w fun e w' => e = .returned (.tuple #[.pointer none, .int .i64 14]) ∧ Ar w' b c d n gs q (st + 1) ∧ Fr b c d w w' := by
  obtain ⟨V, hV, v0, v1, vf, hB, hz⟩ := boxed w (k : Int) x 29
  have hA := h.below hB
  obtain ⟨h0, h1, h2, hf⟩ := hA.cells
  obtain ⟨s0, s1, sf⟩ := hA.slot hk
  have k1 : k < n := h.klt hk
  have k2 : (k : Int) < (n : Int) := by omega
  have k3 : (0 : Int) ≤ (k : Int) := by omega
  have k4 : ((n : Int) ≤ (k : Int)) = False := by simp; omega
  have k5 : (n ≤ k) = False := by simp; omega
  have HL : Hid (∀ U : World, U.cell? ⟨c, k * 2, none⟩ = some (.int .i64 g) → Calls Try.prog 30 #[.pointer (some ⟨c, k * 2, none⟩)] U fun e w' => e = .returned (.bool true) ∧ w' = U) := fun U hU => live_yes _ g _ hU g0 g1
  have f1 : FA w V b c d n k gs q st g x := ⟨hA, hB, v0, v1, h0, h2, hf, s0⟩
  have hx2 : (g == x) = false := by simpa using hx
  clear h hA g0 g1 hk hB h1 s1 sf hz vf
  go_enter Try.func26, Try.ntmps26
  go_wp2_with fail
  clear hV
  go_quiet (fail)
  go_wp2_with fail
  obtain ⟨V2, e2, f2⟩ := f1.dn nq
  rw [e2]
  clear e2 f1 v0 v1 h0 h2 hf s0
  have v0 := f2.v0
  have h0 := f2.h0
  go_quiet (fail)
  go_wp2_with fail
  obtain ⟨V3, e3, f3⟩ := f2.dn nq
  rw [e3]
  clear e3 f2 v0 h0
  have v1 := f3.v1
  have h2 := f3.h2
  have hf := f3.hf
  have s0 := f3.s0
  go_quiet ((go_at_call 30; exact Calls.quiet_of_same (unhide HL _ s0)))
  go_wp2_with fail
  go_ret2
  exact ⟨rfl, (f3.ar.dn _).setStale _, ((Fr.of_below (b := b) (c := c) (d := d) f3.be).dn _).set (p := ⟨b, 2, none⟩) (.inl rfl) _⟩

/-- A handle that is refused: with which error, and by how much Stale grows. -/
def Bad (gs : List Slot) (s x e m : Int) : Prop :=
  (e = 1 ∧ m = 0 ∧ (s < 0 ∨ (gs.length : Int) ≤ s)) ∨ (e = 14 ∧ m = 1 ∧ ∃ (k : Nat) (g v : Int), s = k ∧ gs[k]? = some (g, v) ∧ 0 ≤ g ∧ ¬ (g % 2 = 1 ∧ g = x))

theorem find_bad (b c d n : Nat) (gs : List Slot) (q : List Nat) (st s x er m : Int) (w : World) (h : Ar w b c d n gs q st) (hbad : Bad gs s x er m) (s0 : 0 ≤ st) (s1 : st ≤ 1000000) :
    Calls Try.prog 26 #[.pointer (some ⟨b, 0, none⟩), .agg #[.int .i64 s, .int .i64 x]] w fun e w' => e = .returned (.tuple #[.pointer none, .int .i64 er]) ∧ Ar w' b c d n gs q (st + m) ∧ Fr b c d w w' := by
  rcases hbad with ⟨rfl, rfl, hs⟩ | ⟨rfl, rfl, k, g, v, rfl, hk, g0, g1⟩
  · refine (find_arg b c d n gs q st s x w h (by rw [← h.len]; exact hs)).mono ?_
    rintro e w' ⟨rfl, hB⟩
    exact ⟨rfl, by rw [Int.add_zero]; exact h.below hB, .of_below hB⟩
  · by_cases hg : g % 2 = 1
    · exact find_gone2 b c d n k gs q st g v x w h hk g0 hg (fun e => g1 ⟨hg, e⟩) s0 s1
    · exact find_gone1 b c d n k gs q st g v x w h hk g0 hg s0 s1
end Go.Proofs.Ytfhphamjalpjpaa
