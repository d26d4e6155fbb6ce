/-
  The runs that every law asks for again answer true.
-/
import Derived.Test.YtojnohonofkegaaBase
namespace Go.Proofs.Ytojnohonofkegaa
open Go.RowKit

theorem may_E {cu cg n k m u g l z wt : Int} {x : Bool} (h : may cu cg m u g wt = x) (w : World) : Calls Try.prog 8 #[Cr cu cg, St n k m u g l z, I wt] w fun e w' => e = .returned (.bool x) ∧ Below w.heap.size w w' := h ▸ may_any _ _ _ _ _ _ _ _ _ _ _
theorem owns_E {cu cg n k m u g l z : Int} {x : Bool} (h : owns cu u = x) (w : World) : Calls Try.prog 10 #[Cr cu cg, St n k m u g l z] w fun e w' => e = .returned (.bool x) ∧ Below w.heap.size w w' := h ▸ owns_any _ _ _ _ _ _ _ _ _ _
theorem sticky_E {cu cg n k m u g l z n' k' m' u' g' l' z' : Int} {x : Bool} (h : stk cu m u u' = x) (w : World) : Calls Try.prog 9 #[Cr cu cg, St n k m u g l z, St n' k' m' u' g' l' z'] w fun e w' => e = .returned (.bool x) ∧ Below w.heap.size w w' := h ▸ sticky_any _ _ _ _ _ _ _ _ _ _ _ _ _ _ _ _ _

set_option maxRecDepth 100000 in
theorem known_any (w : World) : Calls Try.prog 11 #[] w fun e w' => e = .returned (.bool true) ∧ Below w.heap.size w w' := by
  go_enter Try.func11, Try.ntmps11
  go_wp2_with fail
  refine (may_E (x := true) (by decide +kernel) _).mono ?_
  rintro e w1 ⟨rfl, B1⟩
  have L := (lay2 _ _ _).step B1
  clear B1
  obtain ⟨c0, c1⟩ := L.cr 0 (b := w.heap.size) rfl rfl
  obtain ⟨d0, d1, d2, d3, d4, d5, d6, d7⟩ := L.st 1 (b := w.heap.size + 1) rfl rfl
  go_wp2_with fail
  refine (may_E (x := false) (by decide +kernel) _).mono ?_
  rintro e w2 ⟨rfl, B⟩
  replace L := L.step B
  clear B c0 c1 d0 d1 d2 d3 d4 d5 d6 d7
  obtain ⟨c0, c1⟩ := L.cr 0 (b := w.heap.size) rfl rfl
  obtain ⟨d0, d1, d2, d3, d4, d5, d6, d7⟩ := L.st 1 (b := w.heap.size + 1) rfl rfl
  go_wp2_with fail
  refine (may_E (x := true) (by decide +kernel) _).mono ?_
  rintro e w3 ⟨rfl, B⟩
  replace L := L.step B
  clear B c0 c1 d0 d1 d2 d3 d4 d5 d6 d7
  obtain ⟨c0, c1⟩ := L.cr 0 (b := w.heap.size) rfl rfl
  obtain ⟨d0, d1, d2, d3, d4, d5, d6, d7⟩ := L.st 1 (b := w.heap.size + 1) rfl rfl
  go_wp2_with fail
  refine (may_E (x := false) (by decide +kernel) _).mono ?_
  rintro e w4 ⟨rfl, B⟩
  replace L := L.step B
  clear B c0 c1 d0 d1 d2 d3 d4 d5 d6 d7
  go_wp2_with fail
  go_ret
  exact ⟨rfl, L.below⟩
end Go.Proofs.Ytojnohonofkegaa
