/-
  The document's Read in its blocks: the answer's, the path's, the row of its parts; what stands between slashes, told by places.
-/
import Derived.Test.YtnhddendkolfeaaRefB
namespace Go.Proofs.Ytnhddendkolfeaa
open Go.RowKit

/-- What lies while the document's Read goes on. -/
structure DJ (w W : World) (h : Nat) (r s : Bool) (a : Option Addr) (n cap : Nat) (q : List (List UInt8)) : Prop where
  be : Below h w W
  k0 : W.heap[h]? = some (.cells #[.bool false, .bool false, .slice none 0 0] 33)
  bx : W.heap[h + 1]? = some (.cells #[.bool r, .bool s, .slice a n cap] 33)
  ow : W.ownsRow h 9 1 (.slice a n cap) n (strs q)
theorem DJ.cells {w W : World} {h : Nat} {r s : Bool} {a : Option Addr} {n cap : Nat} {q : List (List UInt8)} (J : DJ w W h r s a n cap q) : W.cell? ⟨h + 1, 0, none⟩ = some (.bool r) ∧ W.cell? ⟨h + 1, 1, none⟩ = some (.bool s) ∧ W.cell? ⟨h + 1, 2, none⟩ = some (.slice a n cap) ∧ W.frozen? ⟨h + 1, 2, none⟩ = false := by
  refine ⟨?_, ?_, ?_, frozen_of J.bx 2⟩ <;> rw [cell_of J.bx] <;> rfl
theorem DJ.zero {w W : World} {h : Nat} {r s : Bool} {a : Option Addr} {n cap : Nat} {q : List (List UInt8)} (J : DJ w W h r s a n cap q) : W.cell? ⟨h, 0, none⟩ = some (.bool false) ∧ W.cell? ⟨h, 1, none⟩ = some (.bool false) ∧ W.cell? ⟨h, 2, none⟩ = some (.slice none 0 0) ∧ W.frozen? ⟨h, 0, none⟩ = false ∧ W.frozen? ⟨h, 1, none⟩ = false ∧ W.frozen? ⟨h, 2, none⟩ = false := by
  refine ⟨?_, ?_, ?_, frozen_of J.k0 0, frozen_of J.k0 1, frozen_of J.k0 2⟩ <;> rw [cell_of J.k0] <;> rfl
theorem DJ.drew {w W : World} {h : Nat} {r s : Bool} {a : Option Addr} {n cap : Nat} {q : List (List UInt8)} (J : DJ w W h r s a n cap q) : DJ w W.drew h r s a n cap q :=
  ⟨below_drew J.be, J.k0, J.bx, own_keep J.ow fun _ _ _ => rfl⟩
/-- One part more in the path's row. -/
theorem DJ.more {w X : World} {h : Nat} {r s : Bool} {a : Option Addr} {n cap : Nat} {q : List (List UInt8)} (J : DJ w X h r s a n cap q) (x : List UInt8) (hn : n ≤ 10000) :
    ∃ a' cap' W6, AppRun 22 22 (.slice a n cap) (.slice (some ⟨X.heap.size, 0, none⟩) 1 1) (X.alloc (.cells #[S x] 9)) (.slice a' (n + 1) cap') W6 ∧ W6.cell? ⟨h + 1, 2, none⟩ = some (.slice a n cap) ∧ W6.frozen? ⟨h + 1, 2, none⟩ = false ∧
      DJ w (W6.setCell ⟨h + 1, 2, none⟩ (.slice a' (n + 1) cap')) h r s a' (n + 1) cap' (q ++ [x]) := by
  obtain ⟨i0, hi, hz0, hz1, hz2⟩ := info_parts info9
  have hl := lt_of_heap J.bx
  have own5 := own_keep (W' := X.alloc (.cells #[S x] 9)) J.ow (fun k cur hc => Below.heap_alloc X _ _ (lt_of_heap hc))
  obtain ⟨v', W6, hrun, own6, hgr, -, -⟩ := run_append_own_at (P := Try.prog) (X.alloc (.cells #[S x] 9)) h 22 22 9 i0 (.string ByteArray.empty) 1 16 Try.underlying22 hi hz0 hz1 hz2 rfl (by decide) (.slice a n cap) _ _ own5 ⟨X.heap.size, 0, none⟩ 1 1 [S x] rfl (cell_one_new X _ _) (by intro u hu; simp at hu; subst hu; rfl) (by unfold maxLen; omega) (by omega) (by simp; omega)
  obtain ⟨a', c', rfl⟩ := own_form own6
  have b6 : W6.heap[h + 1]? = some (.cells #[.bool r, .bool s, .slice a n cap] 33) := grown_keep J.ow hgr J.bx (by simp)
  have z6 : W6.heap[h]? = some (.cells #[.bool false, .bool false, .slice none 0 0] 33) := grown_keep J.ow hgr J.k0 (by simp)
  have be6 : Below h w W6 := below_grown (J.be.alloc (by omega) _) own5 hgr (by simp; omega)
  refine ⟨a', c', W6, ⟨hrun⟩, by rw [cell_of b6]; rfl, frozen_of b6 2, be6.setCell (p := ⟨h + 1, 2, none⟩) (by simp) _, (Below.heap_setCell _ _ _ _ (by simp)).trans z6, ?_, ?_⟩
  · rw [heap_set b6]; simp
  · have e2 : strs (q ++ [x]) = strs q ++ [S x] := by simp [strs]
    rw [e2]
    refine own_keep own6 fun k cur hc => Below.heap_setCell _ _ _ _ ?_
    rintro rfl
    rw [b6] at hc
    simp at hc
/-- From f to k stands no slash. -/
def mid (l : List UInt8) (f k : Nat) : List UInt8 := (l.drop f).take (k - f)
theorem mid_none (l : List UInt8) (f : Nat) : mid l f f = [] := by simp [mid]
theorem mid_more {l : List UInt8} {f k : Nat} (hf : f ≤ k) (hk : k < l.length) : mid l f (k + 1) = mid l f k ++ [l[k]] := by
  unfold mid
  rw [show k + 1 - f = (k - f) + 1 by omega, List.take_add_one, List.getElem?_drop, show f + (k - f) = k by omega, List.getElem?_eq_getElem hk]
  rfl
theorem mid_len {l : List UInt8} {f k : Nat} (hk : k ≤ l.length) : (mid l f k).length = k - f := by
  unfold mid; simp; omega
theorem mid_cut {l : List UInt8} {f k : Nat} (hf : f ≤ k) (hk : k < l.length) (hc : l[k] = 47) : l.drop f = mid l f k ++ 47 :: l.drop (k + 1) := by
  unfold mid
  have h1 := (List.take_append_drop (k - f) (l.drop f)).symm
  rw [List.drop_drop, show f + (k - f) = k by omega] at h1
  rw [List.drop_eq_getElem_cons hk, hc] at h1
  exact h1
theorem mid_end {l : List UInt8} {f : Nat} : mid l f l.length = l.drop f := by
  unfold mid
  rw [List.take_of_length_le]; simp
theorem mid_slash {l : List UInt8} {f k : Nat} (hf : f ≤ k) (hk : k < l.length) (hc : l[k] = 47) (hn : (47 : UInt8) ∉ mid l f k) : parts (l.drop f) = piece (mid l f k) ++ parts (l.drop (k + 1)) := by
  rw [mid_cut hf hk hc, parts_app, parts_plain hn]
theorem mid_last {l : List UInt8} {f : Nat} (hn : (47 : UInt8) ∉ mid l f l.length) : parts (l.drop f) = piece (mid l f l.length) ++ parts (l.drop (l.length + 1)) := by
  rw [List.drop_of_length_le (by omega : l.length ≤ l.length + 1), parts_nil, List.append_nil, mid_end] at *
  exact parts_plain hn
theorem mid_piece {l : List UInt8} {f k : Nat} (hk : k ≤ l.length) : (f < k → piece (mid l f k) = [mid l f k]) ∧ (¬ f < k → piece (mid l f k) = []) := by
  have h := mid_len (l := l) (f := f) hk
  constructor
  · intro hl
    unfold piece
    rw [if_neg]
    intro e
    rw [e] at h
    simp at h; omega
  · intro hl
    have : mid l f k = [] := List.length_eq_zero_iff.1 (by omega)
    rw [this]; rfl
theorem mid_bs (l : List UInt8) (f k : Nat) : (bs l).extract f k = bs (mid l f k) := extract_bs l f k
theorem rt_byte {l : List UInt8} (he : err l = 0) (h0 : 0 < l.length) : rt l = (l[0] == 47) := by
  cases l with
  | nil => simp at h0
  | cons c r => simp [rt, he, prefix_cons]
theorem sl_byte {l : List UInt8} (he : err l = 0) (h0 : 0 < l.length) : sl l = (l[l.length - 1] == 47) := by
  have hn : l ≠ [] := by rintro rfl; simp at h0
  have e := (List.dropLast_concat_getLast hn).symm
  have e2 : l[l.length - 1] = l.getLast hn := by rw [List.getLast_eq_getElem]
  rw [e2]
  simp only [sl, he, decide_true, Bool.true_and]
  conv => lhs; rw [e]
  exact suffix_app _ _
end Go.Proofs.Ytnhddendkolfeaa
