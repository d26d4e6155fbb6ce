/-
  CredNumbers: chapter 8's runs answer true.
-/
import Derived.Test.YtojnohonofkegaaKnown
namespace Go.Proofs.Ytojnohonofkegaa
open Go.RowKit

theorem lay1 (w : World) (a : Obj) : Laid w (w.alloc a) [a] := (Laid.nil w).put (by simp) a
theorem masked_E {m x : Int} (h : bits .and .i64 m 4095 = x) (w : World) : Calls Try.prog 7 #[I m] w fun e w' => e = .returned (I x) ∧ w' = w := h ▸ masked_any _ _
set_option maxRecDepth 100000 in
theorem numbers_walk (w : World) : Calls Try.prog 3 #[] w fun e w' => e = .returned (.bool true) ∧ Below w.heap.size w w' := by
  go_enter Try.func3, Try.ntmps3
  go_wp2_with fail
  refine (masked_E (x := 4095) (by decide +kernel) _).mono ?_
  rintro e w1 ⟨rfl, rfl⟩
  have L := lay1 w (StO 0 0 1023 0 0 0 0)
  go_wp2_with fail
  refine (may_E (x := true) (by decide +kernel) _).mono ?_
  rintro e w1 ⟨rfl, B⟩
  replace L := L.step B
  clear B
  obtain ⟨d0, d1, d2, d3, d4, d5, d6, d7⟩ := L.st 0 (b := w.heap.size) rfl rfl
  go_wp2_with fail
  refine (sticky_E (x := true) (by decide +kernel) _).mono ?_
  rintro e v0 ⟨rfl, B⟩
  replace L := L.step B
  clear B d0 d1 d2 d3 d4 d5 d6 d7
  obtain ⟨d0, d1, d2, d3, d4, d5, d6, d7⟩ := L.st 0 (b := w.heap.size) rfl rfl
  go_wp2_with fail
  refine (sticky_E (x := false) (by decide +kernel) _).mono ?_
  rintro e v1 ⟨rfl, B⟩
  replace L := L.step B
  clear B d0 d1 d2 d3 d4 d5 d6 d7
  obtain ⟨d0, d1, d2, d3, d4, d5, d6, d7⟩ := L.st 0 (b := w.heap.size) rfl rfl
  go_wp2_with fail
  refine (sticky_E (x := false) (by decide +kernel) _).mono ?_
  rintro e v2 ⟨rfl, B⟩
  replace L := L.step B
  clear B d0 d1 d2 d3 d4 d5 d6 d7
  obtain ⟨d0, d1, d2, d3, d4, d5, d6, d7⟩ := L.st 0 (b := w.heap.size) rfl rfl
  go_wp2_with fail
  refine (sticky_E (x := false) (by decide +kernel) _).mono ?_
  rintro e v3 ⟨rfl, B⟩
  replace L := L.step B
  clear B d0 d1 d2 d3 d4 d5 d6 d7
  obtain ⟨d0, d1, d2, d3, d4, d5, d6, d7⟩ := L.st 0 (b := w.heap.size) rfl rfl
  go_wp2_with fail
  refine (owns_E (x := true) (by decide +kernel) _).mono ?_
  rintro e v4 ⟨rfl, B⟩
  replace L := L.step B
  clear B d0 d1 d2 d3 d4 d5 d6 d7
  obtain ⟨d0, d1, d2, d3, d4, d5, d6, d7⟩ := L.st 0 (b := w.heap.size) rfl rfl
  go_wp2_with fail
  refine (owns_E (x := false) (by decide +kernel) _).mono ?_
  rintro e v5 ⟨rfl, B⟩
  replace L := L.step B
  clear B d0 d1 d2 d3 d4 d5 d6 d7
  obtain ⟨d0, d1, d2, d3, d4, d5, d6, d7⟩ := L.st 0 (b := w.heap.size) rfl rfl
  go_wp2_with fail
  refine (owns_E (x := true) (by decide +kernel) _).mono ?_
  rintro e v6 ⟨rfl, B⟩
  replace L := L.step B
  clear B d0 d1 d2 d3 d4 d5 d6 d7
  go_wp2_with fail
  refine (known_any _).mono ?_
  rintro e v ⟨rfl, B⟩
  replace L := L.step B
  clear B
  go_wp2_with fail
  go_ret
  exact ⟨rfl, L.below⟩
end Go.Proofs.Ytojnohonofkegaa
