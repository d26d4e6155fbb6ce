/-
  The contract of Texts where both are the same.
-/
import Derived.Test.YtiedobpgfhmidaaNames
namespace Go.Proofs.Ytiedobpgfhmidaa
open Go.RowKit Go.Maps

theorem str_same (a : ByteArray) : (a.toList == a.toList) = true := by simp
set_option maxRecDepth 100000 in
set_option maxHeartbeats 1000000 in
theorem texts_same (W : World) (b1 o1 c1 b2 o2 c2 m : Nat) (xs : List ByteArray) (hl : xs.length = m) (hm : m ≤ 1000) (h1 : ∀ i x, xs[i]? = some x → W.cell? ⟨b1, o1 + i, none⟩ = some (.string x)) (h2 : ∀ i x, xs[i]? = some x → W.cell? ⟨b2, o2 + i, none⟩ = some (.string x)) :
    Calls Try.prog 16 #[.slice (some ⟨b1, o1, none⟩) m c1, .slice (some ⟨b2, o2, none⟩) m c2] W fun e w' => e = .returned (.bool true) ∧ ∃ k, w' = W.drewN k := by
  have H1 := hide h1
  have H2 := hide h2
  have HL := hide hl
  clear h1 h2 hl
  go_enter Try.func16, Try.ntmps16
  go_wp2_with fail
  go_loopw [5] (fun i wr => ∃ k j : Nat, j ≤ m ∧ i = .int .i64 (j : Int) ∧ wr = W.drewN k) (fun i _ => m - (intOf i).toNat)
  case atStart => exact ⟨0, 0, Nat.zero_le _, rfl, rfl⟩
  case round =>
    obtain ⟨k, j, hj, rfl, rfl⟩ := hrel
    by_cases hlt : j < m
    · have l1 : (j : Int) < (m : Int) := by omega
      obtain ⟨x, hx⟩ : ∃ x, xs[j]? = some x := ⟨_, List.getElem?_eq_getElem (by have := unhide HL; omega)⟩
      have e1 : (W.drewN k).cell? ⟨b1, o1 + j, none⟩ = some (.string x) := unhide H1 j x hx
      have e2 : (W.drewN k).cell? ⟨b2, o2 + j, none⟩ = some (.string x) := unhide H2 j x hx
      have hs := str_same x
      have e10 : W.cell? ⟨b1, o1 + j, none⟩ = some (.string x) := e1
      have e20 : W.cell? ⟨b2, o2 + j, none⟩ = some (.string x) := e2
      have e1d : (W.drewN k).drew.cell? ⟨b1, o1 + j, none⟩ = some (.string x) := e1
      have e2d : (W.drewN k).drew.cell? ⟨b2, o2 + j, none⟩ = some (.string x) := e2
      clear hx
      go_wp2_with fail
      go_region
      all_goals go_wp2_with fail
      all_goals exact ⟨⟨k + 1, j + 1, by omega, by go_num, rfl⟩, by simp [intOf]; omega⟩
    · obtain rfl : j = m := by omega
      go_wp2_with fail
      go_ret
      exact ⟨rfl, k, rfl⟩
end Go.Proofs.Ytiedobpgfhmidaa
