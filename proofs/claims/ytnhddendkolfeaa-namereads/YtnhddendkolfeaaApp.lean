/-
  A row of strings behind a row of the call's own: append.
-/
import Derived.Test.YtnhddendkolfeaaKnown
import Derived.Deep.RegionLaw
namespace Go.Proofs.Ytnhddendkolfeaa
open Go.RowKit
attribute [local go_sem ↓] Go.wp_at_zero Go.wp_at_succ

theorem append_zero (w : World) (g n cap : Nat) (pa : Option Addr) (c : Nat) (h : n ≤ cap) : (Builtin.append_ #[22, 22] 22 #[.slice (some ⟨g, 0, none⟩) n cap, .slice pa 0 c]).run Try.prog w = .ok (.slice (some ⟨g, 0, none⟩) n cap) w := by
  obtain ⟨i0, hi, hz0, hz1, hz2⟩ := info_parts info9
  cases pa <;> simp [Builtin.append_, run_underlying Try.underlying22, sizeOf, typeInfo, hi, Builtin.lenOf, Builtin.firstCells, loadCells, loadCellsFrom, storeCells, h]
theorem append_row {W : World} {base g n cap m c : Nat} {xs : List Value} {pa : Option Addr} {ys : List (List UInt8)} (own : W.ownsRow base 9 1 (.slice (some ⟨g, 0, none⟩) n cap) n xs) (row : RowO W pa ys) (hm : ys.length = m) (hn : n + m ≤ 1000000) (hb : base ≤ W.heap.size) :
    ∃ g' cap' W', (Builtin.append_ #[22, 22] 22 #[.slice (some ⟨g, 0, none⟩) n cap, .slice pa m c]).run Try.prog W = .ok (.slice (some ⟨g', 0, none⟩) (n + m) cap') W' ∧ W'.ownsRow base 9 1 (.slice (some ⟨g', 0, none⟩) (n + m) cap') (n + m) (xs ++ strs ys) ∧ W.grownBy W' (some g) := by
  cases ys with
  | nil =>
    obtain rfl : m = 0 := hm.symm
    have hcap : n ≤ cap := by
      obtain ⟨-, ⟨h1, _⟩ | ⟨g', cap', cur, h1, h2, h3, h4, _⟩⟩ := own
      · simp at h1
      · simp only [Value.slice.injEq] at h1; omega
    exact ⟨g, cap, W, append_zero W g n cap pa c hcap, by simpa using own, rfl, rfl, rfl, Nat.le_refl _, fun _ _ _ => rfl⟩
  | cons y t =>
    obtain ⟨b, off, rfl, hbW, -⟩ := row 0 y rfl
    obtain ⟨i0, hi, hz0, hz1, hz2⟩ := info_parts info9
    have hcell : ∀ (j : Nat) u, (strs (y :: t))[j]? = some u → W.cell? ((⟨b, off, none⟩ : Addr).add j) = some u := by
      intro j u hj
      rw [List.getElem?_map, Option.map_eq_some_iff] at hj
      obtain ⟨s, hs, rfl⟩ := hj
      obtain ⟨b', off', e1, _, hc⟩ := row j s hs
      simp only [Option.some.injEq, Addr.mk.injEq, and_true] at e1
      obtain ⟨rfl, rfl⟩ := e1
      rw [show (⟨b, off, none⟩ : Addr).add j = ⟨b, off + j, none⟩ from by unfold Addr.add; split <;> simp_all]
      exact hc
    obtain ⟨v', W', hrun, own', hgr, -, -⟩ := run_append_own_at (P := Try.prog) W base 22 22 9 i0 (.string ByteArray.empty) 1 16 Try.underlying22 hi hz0 hz1 hz2 rfl (by decide) (.slice (some ⟨g, 0, none⟩) n cap) n xs own ⟨b, off, none⟩ m c (strs (y :: t)) (by simpa [strs] using hm) hcell (by intro u hu; simp [strs] at hu; rcases hu with rfl | ⟨_, _, rfl⟩ <;> rfl) (by unfold maxLen; omega) (by omega) hb
    obtain ⟨a, cap', rfl⟩ := own_form own'
    obtain ⟨g', ⟨rfl, h1, _⟩ | rfl⟩ := own_addr own'
    · simp at hm; omega
    · exact ⟨g', cap', W', hrun, own', hgr⟩
/-- A row of none, in a new block. -/
theorem row0 {W : World} : ∃ W', W.alloc (.cells #[] 9) = W' ∧ Below W.heap.size W W' ∧ W'.ownsRow W.heap.size 9 1 (.slice (some ⟨W.heap.size, 0, none⟩) 0 0) 0 [] := by
  obtain ⟨W', h1, h2, h3⟩ := box (W := W) (.cells #[] 9)
  exact ⟨W', h1, h2, rfl, .inr ⟨W.heap.size, 0, #[], rfl, Nat.le_refl _, h3, Nat.le_refl _, by unfold maxLen; omega, rfl, rfl⟩⟩
end Go.Proofs.Ytnhddendkolfeaa
