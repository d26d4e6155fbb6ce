/-
  The contract of Same of two slices of one handle each that are alike: true, and nothing is turned.
-/
import Derived.Test.YtfhphamjalpjpaaOwn
namespace Go.Proofs.Ytfhphamjalpjpaa
open Go.RowKit
attribute [local go_sem ↓] Go.wp_at_zero Go.wp_at_succ

set_option maxRecDepth 100000 in
set_option maxHeartbeats 1000000 in
theorem same_one (g cap h : Nat) (s x : Int) (w : World) (z0 : w.cell? ⟨g, 0, none⟩ = some (.int .i64 s)) (z1 : w.cell? ⟨g, 1, none⟩ = some (.int .i64 x)) (y0 : w.cell? ⟨h, 0, none⟩ = some (.int .i64 s)) (y1 : w.cell? ⟨h, 1, none⟩ = some (.int .i64 x)) :
    Calls Try.prog 15 #[.slice (some ⟨g, 0, none⟩) 1 cap, .slice (some ⟨h, 0, none⟩) 1 1] w fun e w' => e = .returned (.bool true) ∧ Below w.heap.size w w' := by
  go_enter Try.func15, Try.ntmps15
  go_wp2_with fail
  go_loopw [5] (fun i wr => (i = .int .i64 0 ∧ wr = w) ∨ (i = .int .i64 1 ∧ Below w.heap.size w wr)) (fun i _ => 1 - (intOf i).toNat)
  case atStart => exact .inl ⟨rfl, rfl⟩
  case round =>
    rcases hrel with ⟨rfl, rfl⟩ | ⟨rfl, hJ⟩
    · go_wp2_with fail
      go_quiet (fail)
      go_wp2_with fail
      go_roundw
      case rel => exact .inr ⟨rfl, below_dn (Below.refl _ _) _⟩
      case measure => simp [intOf]
    · go_wp2_with fail
      go_ret
      exact ⟨rfl, hJ⟩

/-- What is kept across the calls of a closed law's last statement: a handle's block, and all that lay ahead of the law. -/
structure Kp (w0 : World) (B : Nat) (s x : Int) (W : World) : Prop where
  be : Below w0.heap.size w0 W
  k : W.heap[B]? = some (hObj s x)
theorem Kp.to {w0 W W' : World} {B : Nat} {s x : Int} (h : Kp w0 B s x W) (g : Below W.heap.size W W') : Kp w0 B s x W' :=
  ⟨h.be.trans (g.mono h.be.size), (g.block _ (lt_of_heap h.k)).trans h.k⟩
theorem Kp.drew {w0 W : World} {B : Nat} {s x : Int} (h : Kp w0 B s x W) : Kp w0 B s x W.drew := ⟨⟨h.be.os, h.be.tape, h.be.output, h.be.size, h.be.block⟩, h.k⟩
theorem Kp.alloc {w0 W : World} {B : Nat} {s x : Int} (h : Kp w0 B s x W) (o : Obj) : Kp w0 B s x (W.alloc o) := h.to ((Below.refl _ _).alloc (Nat.le_refl _) o)

theorem live_kept (w0 W : World) (B b c d n : Nat) (s x s1 x1 st : Int) (gs : List Slot) (q : List Nat) (hK : Kp w0 B s x W) (hA : Ar W b c d n gs q st) (hnn : ∀ (i : Nat) (g v : Int), gs[i]? = some (g, v) → 0 ≤ g) (hl : lives gs n = [(s1, x1)]) :
    Calls Try.prog 16 #[.pointer (some ⟨b, 0, none⟩)] W fun e w' => ∃ g cap, e = .returned (.slice (some ⟨g, 0, none⟩) 1 cap) ∧ w'.cell? ⟨B, 0, none⟩ = some (.int .i64 s) ∧ w'.cell? ⟨B, 1, none⟩ = some (.int .i64 x) ∧
      Hid (Kp w0 B s x w' ∧ w'.cell? ⟨g, 0, none⟩ = some (.int .i64 s1) ∧ w'.cell? ⟨g, 1, none⟩ = some (.int .i64 x1) ∧ g < w'.heap.size ∧ Below W.heap.size W w') := by
  refine (live_all b c d n gs q st W hA hnn).mono ?_
  rintro e w' ⟨v, rfl, own, hB⟩
  rw [hl] at own
  obtain ⟨g, cap, cur, rfl, hg, k, hcap, hcm, hcs, hce⟩ := own_open own (by simp)
  have K := hK.to hB
  exact ⟨g, cap, rfl, (hcells K.k).1, (hcells K.k).2.1, K, hce 0 _ rfl, hce 1 _ rfl, lt_of_heap k, hB⟩
theorem same_kept (w0 W : World) (B g cap h : Nat) (s x s1 x1 : Int) (hK : Kp w0 B s x W) (z0 : W.cell? ⟨g, 0, none⟩ = some (.int .i64 s1)) (z1 : W.cell? ⟨g, 1, none⟩ = some (.int .i64 x1)) (y0 : W.cell? ⟨h, 0, none⟩ = some (.int .i64 s1)) (y1 : W.cell? ⟨h, 1, none⟩ = some (.int .i64 x1)) :
    Calls Try.prog 15 #[.slice (some ⟨g, 0, none⟩) 1 cap, .slice (some ⟨h, 0, none⟩) 1 1] W fun e w' => e = .returned (.bool true) ∧ w'.cell? ⟨B, 0, none⟩ = some (.int .i64 s) ∧ w'.cell? ⟨B, 1, none⟩ = some (.int .i64 x) ∧ Hid (Kp w0 B s x w') := by
  refine (same_one g cap h s1 x1 W z0 z1 y0 y1).mono ?_
  rintro e w' ⟨rfl, hB⟩
  have K := hK.to hB
  exact ⟨rfl, (hcells K.k).1, (hcells K.k).2.1, K⟩
theorem known_kept (w0 W : World) (B : Nat) (s x : Int) (hK : Kp w0 B s x W) :
    Calls Try.prog 17 #[] W fun e w' => e = .returned (.bool true) ∧ w'.cell? ⟨B, 0, none⟩ = some (.int .i64 s) ∧ w'.cell? ⟨B, 1, none⟩ = some (.int .i64 x) ∧ Hid (Kp w0 B s x w') := by
  refine (known_true W).mono ?_
  rintro e w' ⟨rfl, hB⟩
  have K := hK.to hB
  exact ⟨rfl, (hcells K.k).1, (hcells K.k).2.1, K⟩
end Go.Proofs.Ytfhphamjalpjpaa
