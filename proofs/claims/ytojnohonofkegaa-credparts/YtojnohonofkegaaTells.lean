/-
  CredTells: rights are told as the document says: the walk.
-/
import Derived.Test.YtojnohonofkegaaRef
import Derived.Deep.RegionHeld3
import Derived.Deep.QuietTactic
import Derived.BigQuiet
namespace Go.Proofs.Ytojnohonofkegaa
open Go.RowKit

theorem Laid.drew {w v : World} {os : List Obj} (h : Laid w v os) : Laid w v.drew os :=
  ⟨h.lies, ⟨h.below.os, h.below.tape, h.below.output, h.below.size, h.below.block⟩, h.room⟩
/-- A cred and two stats, cell by cell. -/
abbrev Three (b0 b1 b2 : Nat) (cu cg n k m u g l z n' k' m' u' g' l' z' : Int) (W : World) : Prop :=
  W.cell? ⟨b0, 0, none⟩ = some (I cu) ∧ W.cell? ⟨b0, 1, none⟩ = some (I cg) ∧
  W.cell? ⟨b1, 0, none⟩ = some (I n) ∧ W.cell? ⟨b1, 1, none⟩ = some (I k) ∧ W.cell? ⟨b1, 2, none⟩ = some (I m) ∧ W.cell? ⟨b1, 3, none⟩ = some (I u) ∧ W.cell? ⟨b1, 4, none⟩ = some (I g) ∧ W.cell? ⟨b1, 5, none⟩ = some (I l) ∧ W.cell? ⟨b1, 6, none⟩ = some (I z) ∧
  W.cell? ⟨b2, 0, none⟩ = some (I n') ∧ W.cell? ⟨b2, 1, none⟩ = some (I k') ∧ W.cell? ⟨b2, 2, none⟩ = some (I m') ∧ W.cell? ⟨b2, 3, none⟩ = some (I u') ∧ W.cell? ⟨b2, 4, none⟩ = some (I g') ∧ W.cell? ⟨b2, 5, none⟩ = some (I l') ∧ W.cell? ⟨b2, 6, none⟩ = some (I z')
theorem Laid.cells3 {w v : World} {cu cg n k m u g l z n' k' m' u' g' l' z' : Int} (h : Laid w v [CrO cu cg, StO n k m u g l z, StO n' k' m' u' g' l' z']) {b0 b1 b2 : Nat} (e0 : b0 = w.heap.size) (e1 : b1 = w.heap.size + 1) (e2 : b2 = w.heap.size + 1 + 1) :
    Three b0 b1 b2 cu cg n k m u g l z n' k' m' u' g' l' z' v := by
  obtain ⟨c0, c1⟩ := h.cr 0 (b := b0) (by omega) rfl
  obtain ⟨d0, d1, d2, d3, d4, d5, d6, d7⟩ := h.st 1 (b := b1) (by omega) rfl
  obtain ⟨f0, f1, f2, f3, f4, f5, f6, f7⟩ := h.st 2 (b := b2) (by omega) rfl
  exact ⟨c0, c1, d0, d1, d2, d3, d4, d5, d6, f0, f1, f2, f3, f4, f5, f6⟩
/-- The three blocks, and where they lie. -/
def Kp (b0 b1 b2 : Nat) (cu cg n k m u g l z n' k' m' u' g' l' z' : Int) (w v : World) : Prop :=
  Laid w v [CrO cu cg, StO n k m u g l z, StO n' k' m' u' g' l' z'] ∧ b0 = w.heap.size ∧ b1 = w.heap.size + 1 ∧ b2 = w.heap.size + 1 + 1
theorem Kp.step {b0 b1 b2 : Nat} {cu cg n k m u g l z n' k' m' u' g' l' z' : Int} {w v v' : World} (h : Kp b0 b1 b2 cu cg n k m u g l z n' k' m' u' g' l' z' w v) (gr : Below v.heap.size v v') : Kp b0 b1 b2 cu cg n k m u g l z n' k' m' u' g' l' z' w v' := ⟨h.1.step gr, h.2⟩
theorem Kp.three {b0 b1 b2 : Nat} {cu cg n k m u g l z n' k' m' u' g' l' z' : Int} {w v : World} (h : Kp b0 b1 b2 cu cg n k m u g l z n' k' m' u' g' l' z' w v) : Three b0 b1 b2 cu cg n k m u g l z n' k' m' u' g' l' z' v := h.1.cells3 h.2.1 h.2.2.1 h.2.2.2

set_option maxRecDepth 100000 in
set_option maxHeartbeats 4000000 in
theorem tells_walk (cu cg n k m u g l z n' k' m' u' g' l' z' wt : Int) (w : World) : Calls Try.prog 4 #[Cr cu cg, St n k m u g l z, St n' k' m' u' g' l' z', I wt] w fun e w' => e = .returned (.bool true) ∧ Below w.heap.size w w' := by
  go_enter Try.func4, Try.ntmps4
  go_wp2_with fail
  have L := lay3 w (CrO cu cg) (StO n k m u g l z) (StO n' k' m' u' g' l' z')
  generalize hV : ((w.alloc (CrO cu cg)).alloc (StO n k m u g l z)).alloc (StO n' k' m' u' g' l' z') = V at *
  clear hV
  replace L := L.drew
  obtain ⟨b0, e0⟩ : ∃ b, b = w.heap.size := ⟨_, rfl⟩
  obtain ⟨b1, e1⟩ : ∃ b, b = w.heap.size + 1 := ⟨_, rfl⟩
  obtain ⟨b2, e2⟩ : ∃ b, b = w.heap.size + 1 + 1 := ⟨_, rfl⟩
  have C := L.cells3 e0 e1 e2
  have K : Kp b0 b1 b2 cu cg n k m u g l z n' k' m' u' g' l' z' w V.drew := ⟨L, e0, e1, e2⟩
  rw [← e2, ← e1, ← e0]
  clear L e0 e1 e2
  go_region_held3 (fun W => Three b0 b1 b2 cu cg n k m u g l z n' k' m' u' g' l' z' W) (assumption)
    (first
      | (go_at_call 8; refine (may_any cu cg n k m u g l z wt _).mono ?_; rintro e v8 ⟨rfl, B⟩; replace K := K.step B; clear B; have C8 := K.three)
      | (go_at_call 12; refine (rmay_any cu cg n k m u g l z wt _).mono ?_; rintro e v12 ⟨rfl, B⟩; replace K := K.step B; clear B; have C12 := K.three)
      | (go_at_call 10; refine (owns_any cu cg n k m u g l z _).mono ?_; rintro e v10 ⟨rfl, B⟩; replace K := K.step B; clear B; have C10 := K.three)
      | (go_at_call 13; refine (rowns_any cu cg n k m u g l z _).mono ?_; rintro e v13 ⟨rfl, B⟩; replace K := K.step B; clear B; have C13 := K.three)
      | (go_at_call 9; refine (sticky_any cu cg n' k' m' u' g' l' z' n k m u g l z _).mono ?_; rintro e v9 ⟨rfl, B⟩; replace K := K.step B; clear B; have C9 := K.three)
      | (go_at_call 14; refine (rsticky_any cu cg n' k' m' u' g' l' z' n k m u g l z _).mono ?_; rintro e v14 ⟨rfl, B⟩; replace K := K.step B; clear B; have C14 := K.three)
      | (go_at_call 11; refine (known_any _).mono ?_; rintro e v11 ⟨rfl, B⟩; replace K := K.step B; clear B; have C11 := K.three)
      | (go_at_call 7; refine (masked_any wt _).mono ?_; rintro e vx ⟨rfl, rfl⟩)
      | (go_at_call 15; refine (rmasked_any wt _).mono ?_; rintro e vx ⟨rfl, rfl⟩))
  all_goals
    go_wp2_with fail
    go_ret
    exact ⟨rfl, K.1.below⟩
end Go.Proofs.Ytojnohonofkegaa
