/-
  NameBack: a path that is written of right parts is read as itself; slashes more between change nothing.
-/
import Derived.Test.YtnhddendkolfeaaCleans
import Derived.Test.YtnhddendkolfeaaPureC
import Derived.Test.YtnhddendkolfeaaIn
namespace Go.Proofs.Ytnhddendkolfeaa
open Go.RowKit
attribute [local go_sem ↓] Go.wp_at_zero Go.wp_at_succ

theorem cat_two (a b : List UInt8) : bs a ++ bs b = bs (a ++ b) := by
  apply ByteArray.ext
  simp
theorem bars_snoc (n : Nat) : bs (bars n) ++ (⟨#[47]⟩ : ByteArray) = bs (bars (n + 1)) :=
  (cat_two (bars n) [47]).trans (congrArg bs (by unfold bars; rw [List.replicate_succ']))
theorem wt_rights {q : List (List UInt8)} (h : Rights q) (hl : q.length ≤ 12) : wt q ≤ 100000000 := by
  have h2 : ∀ q : List (List UInt8), Rights q → wt q ≤ q.length * 256 := by
    intro q
    induction q with
    | nil => simp [wt]
    | cons p r ih =>
      intro hq
      have h1 := (right_ok (hq p List.mem_cons_self)).2.1
      have h2 := ih fun x hx => hq x (List.mem_cons_of_mem _ hx)
      simp only [wt, List.length_cons, Nat.add_mul]
      omega
  have := h2 q h
  omega
theorem read_pk {r s : Bool} {q : List (List UInt8)} (h : Rights q) (h0 : q ≠ []) (h12 : q.length ≤ 12) (n : Nat) (hn : n ≤ 5) (w : World) : Calls Try.prog 9 #[S (pk r s n q)] w fun e w' => ∃ a cap, e = .returned (.tuple #[.agg #[.bool r, .bool s, .slice a q.length cap], .int .i64 0]) ∧ RowO w' a q ∧ Below w.heap.size w w' := by
  obtain ⟨h1, h2, h3, h4⟩ := pk_all (r := r) (s := s) h h0 h12 n hn
  exact read_F h1 h2 h3 h4 w
theorem CJ.drew {w W : World} {b h : Nat} {r s : Bool} {a : Option Addr} {n cap : Nat} {q : List (List UInt8)} (J : CJ w W b h r s a n cap q) : CJ w W.drew b h r s a n cap q :=
  ⟨below_drew J.be, J.bx, J.hb, own_keep J.ow fun _ _ _ => rfl⟩
theorem CJ.below {w W W' : World} {b h : Nat} {r s : Bool} {a : Option Addr} {n cap : Nat} {q : List (List UInt8)} (J : CJ w W b h r s a n cap q) (B : Below W.heap.size W W') : CJ w W' b h r s a n cap q := by
  have := lt_of_heap J.bx
  have := J.hb
  exact ⟨J.be.trans (B.mono (by omega)), (B.block b (lt_of_heap J.bx)).trans J.bx, J.hb, own_keep J.ow fun k cur hc => B.block k (lt_of_heap hc)⟩
/-- One part more in the box's row. -/
theorem CJ.more {w X : World} {b h : Nat} {r s : Bool} {a : Option Addr} {n cap : Nat} {q : List (List UInt8)} (J : CJ w X b h r s a n cap q) (x : List UInt8) (hn : n ≤ 1000) :
    ∃ a' cap' W6, AppRun 22 22 (.slice a n cap) (.slice (some ⟨X.heap.size, 0, none⟩) 1 1) (X.alloc (.cells #[S x] 9)) (.slice a' (n + 1) cap') W6 ∧ W6.cell? ⟨b, 2, none⟩ = some (.slice a n cap) ∧ W6.frozen? ⟨b, 2, none⟩ = false ∧
      CJ w (W6.setCell ⟨b, 2, none⟩ (.slice a' (n + 1) cap')) b h r s a' (n + 1) cap' (q ++ [x]) := by
  obtain ⟨i0, hi, hz0, hz1, hz2⟩ := info_parts info9
  have hl := lt_of_heap J.bx
  have hb := J.hb
  have own5 := own_keep (W' := X.alloc (.cells #[S x] 9)) J.ow (fun k cur hc => Below.heap_alloc X _ _ (lt_of_heap hc))
  obtain ⟨v', W6, hrun, own6, hgr, -, -⟩ := run_append_own_at (P := Try.prog) (X.alloc (.cells #[S x] 9)) h 22 22 9 i0 (.string ByteArray.empty) 1 16 Try.underlying22 hi hz0 hz1 hz2 rfl (by decide) (.slice a n cap) _ _ own5 ⟨X.heap.size, 0, none⟩ 1 1 [S x] rfl (cell_one_new X _ _) (by intro u hu; simp at hu; subst hu; rfl) (by unfold maxLen; omega) (by omega) (by simp; omega)
  obtain ⟨a', c', rfl⟩ := own_form own6
  have b6 : W6.heap[b]? = some (.cells #[.bool r, .bool s, .slice a n cap] 24) := grown_keep J.ow hgr J.bx (by simp)
  have be6 : Below h w W6 := below_grown (J.be.alloc (by omega) _) own5 hgr (by simp; omega)
  refine ⟨a', c', W6, ⟨hrun⟩, by rw [cell_of b6]; rfl, frozen_of b6 2, be6.setCell (p := ⟨b, 2, none⟩) hb _, ?_, hb, ?_⟩
  · rw [heap_set b6]; simp
  · have e2 : strs (q ++ [x]) = strs q ++ [S x] := by simp [strs]
    rw [e2]
    refine own_keep own6 fun k cur hc => Below.heap_setCell _ _ _ _ ?_
    rintro rfl
    rw [b6] at hc
    simp at hc
theorem Rights.snoc {q : List (List UInt8)} {x : List UInt8} (h : Rights q) (hx : right x = true) : Rights (q ++ [x]) := fun p hp => by
  rcases List.mem_append.1 hp with hp | hp
  · exact h p hp
  · simp at hp; subst hp; exact hx
end Go.Proofs.Ytnhddendkolfeaa
