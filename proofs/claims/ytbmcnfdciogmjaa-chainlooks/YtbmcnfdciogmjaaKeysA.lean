/-
  What Keys collects: all keys of all chains are just those of the plain list.
-/
import Derived.Test.YtbmcnfdciogmjaaSort
namespace Go.Proofs.Ytbmcnfdciogmjaa
open Go.RowKit Go.Sort

abbrev kb (k : ByteArray) : List UInt8 := k.data.toList
theorem enc_kb (k : ByteArray) : encStr (kb k) = .string k := by simp [encStr, kb]
theorem kb_inj {a b : ByteArray} (h : kb a = kb b) : a = b := ByteArray.ext (Array.ext' h)
def cat (ch : Nat → List E) (i : Nat) : List E := (List.range i).flatMap ch
theorem cat_succ (ch : Nat → List E) (i : Nat) : cat ch (i + 1) = cat ch i ++ ch i := by simp [cat, List.range_succ]
theorem perm_of_mem {α : Type} [DecidableEq α] : ∀ (a b : List α), a.Nodup → b.Nodup → (∀ x, x ∈ a ↔ x ∈ b) → a.Perm b
  | [], b, _, _, h => by
    cases b with
    | nil => exact .refl _
    | cons y b => have := (h y).2 (by simp); simp at this
  | x :: a, b, ha, hb, h => by
    have hx : x ∈ b := (h x).1 (by simp)
    rw [List.nodup_cons] at ha
    refine List.Perm.trans (List.Perm.cons x (perm_of_mem a (b.erase x) ha.2 (hb.erase x) fun y => ?_)) (List.perm_cons_erase hx).symm
    rw [hb.mem_erase_iff, ← h y]
    constructor
    · intro hy
      exact ⟨by rintro rfl; exact ha.1 hy, by simp [hy]⟩
    · rintro ⟨h1, h2⟩
      rcases List.mem_cons.1 h2 with e | e
      · exact absurd e h1
      · exact e
section
variable {base : Nat} {W : World} {bt bh n : Nat} {ch : Nat → List E} {m : Pairs}
theorem mem_cat {x : E} {i : Nat} : x ∈ cat ch i ↔ ∃ j, j < i ∧ x ∈ ch j := by simp [cat]
theorem Tb.cat_nodup (h : Tb base W bt bh n ch m) (i : Nat) (hi : i ≤ n) : ((cat ch i).map (·.key)).Nodup := by
  induction i with
  | zero => simp [cat]
  | succ i ih =>
    rw [cat_succ, List.map_append, List.nodup_append]
    refine ⟨ih (by omega), h.nod i (by omega), ?_⟩
    intro a ha b hb
    obtain ⟨x, hx, rfl⟩ := List.mem_map.1 ha
    obtain ⟨y, hy, rfl⟩ := List.mem_map.1 hb
    obtain ⟨j, hj, hx⟩ := mem_cat.1 hx
    intro e
    have h1 := h.slot j x (by omega) hx
    have h2 := h.slot i y (by omega) hy
    rw [e] at h1
    omega
theorem Tb.cat_perm (h : Tb base W bt bh n ch m) : ((cat ch n).map (·.key)).Perm (m.map (·.1)) := by
  refine perm_of_mem _ _ (h.cat_nodup n (Nat.le_refl _)) h.mnod fun k => ?_
  constructor
  · intro hk
    obtain ⟨x, hx, rfl⟩ := List.mem_map.1 hk
    obtain ⟨j, hj, hx⟩ := mem_cat.1 hx
    refine List.mem_map.2 ⟨(x.key, x.val), (h.mem _ _).2 ⟨x, ?_, rfl, rfl⟩, rfl⟩
    rw [h.slot j x hj hx]; exact hx
  · intro hk
    obtain ⟨⟨a, v⟩, hp, rfl⟩ := List.mem_map.1 hk
    obtain ⟨x, hx, h1, h2⟩ := (h.mem _ _).1 hp
    exact List.mem_map.2 ⟨x, mem_cat.2 ⟨_, slot_lt h.lo a, hx⟩, h1⟩
theorem Tb.cat_len (h : Tb base W bt bh n ch m) : (cat ch n).length = m.length := by simpa using h.cat_perm.length_eq
theorem cat_le (ch : Nat → List E) {i n : Nat} (h : i ≤ n) : (cat ch i).length ≤ (cat ch n).length := by
  induction n with
  | zero => obtain rfl : i = 0 := by omega
            exact Nat.le_refl _
  | succ n ih =>
    by_cases hi : i = n + 1
    · rw [hi]; exact Nat.le_refl _
    · have := ih (by omega); rw [cat_succ, List.length_append]; omega
end
/-- All keys, in order of bytes. -/
def ordered (m : Pairs) : List (List UInt8) := (m.map (fun p => kb p.1)).mergeSort leB
theorem leB_total (a b : List UInt8) : (leB a b || leB b a) = true := by
  simp only [leB, Bool.or_eq_true, decide_eq_true_eq]
  exact List.le_total a b
theorem leB_trans (a b c : List UInt8) (h1 : leB a b = true) (h2 : leB b c = true) : leB a c = true := by
  simp only [leB, decide_eq_true_eq] at *
  exact List.le_trans h1 h2
theorem sort_perm {a b : List (List UInt8)} (h : a.Perm b) : a.mergeSort leB = b.mergeSort leB := by
  refine List.Perm.eq_of_pairwise (le := fun x y => leB x y = true) ?_ (List.pairwise_mergeSort leB_trans leB_total a) (List.pairwise_mergeSort leB_trans leB_total b) ?_
  · intro x y _ _ h1 h2
    simp only [leB, decide_eq_true_eq] at h1 h2
    exact List.le_antisymm h1 h2
  · exact ((List.mergeSort_perm a leB).trans h).trans (List.mergeSort_perm b leB).symm
theorem Tb.sorted {base : Nat} {W : World} {bt bh n : Nat} {ch : Nat → List E} {m : Pairs} (h : Tb base W bt bh n ch m) : ((cat ch n).map (fun x => kb x.key)).mergeSort leB = ordered m := by
  apply sort_perm
  have := h.cat_perm.map kb
  simpa [List.map_map, Function.comp_def] using this
end Go.Proofs.Ytbmcnfdciogmjaa
