/-
  The contract of Live.
-/
import Derived.Test.YtlngeaacjbdmhaaGetB
namespace Go.Proofs.Ytlngeaacjbdmhaa
open Go.RowKit Go.Maps Go.Sort Go.Shelf

theorem map_keys {W : World} {b m : Nat} {D : DataW Value} {f : Int → Option Value} (h : W.ownsMap Try.prog 3 hE b m D) (hf : Go.Proofs.Ytlngeaacjbdmhaa.Holds D f) (k : Int) : Maps.has D (kl k) = true ↔ (kl k).wf = true ∧ (f k).isSome = true := by
  constructor
  · intro hh
    have hwf : (kl k).wf = true := by
      obtain ⟨es, c, h1, F, h3, rfl⟩ := h
      rw [Maps.has_eq, List.any_eq_true] at hh
      obtain ⟨p, hp, hq⟩ := hh
      have hp2 := mem_sorted.1 hp
      obtain ⟨v, hv⟩ := Maps.fit_keys F p hp2
      obtain ⟨x, _, h2, h3⟩ := Maps.keyOf_int_inv Try.underlying3 hv
      have h4 := WideAt.sameKey_eq hq
      rw [← h4, h2]
      exact h3
    exact ⟨hwf, by rw [← (hf k hwf).1]; exact hh⟩
  · rintro ⟨h1, h2⟩
    rw [(hf k h1).1]; exact h2
def Tr.livesI (T : Tr) : List Int := T.lives.map fun k : Nat => (k : Int)
theorem Tr.livesI_mem (T : Tr) {B : Nat} (hw : Wk B T) (k : Int) : k ∈ T.livesI ↔ (T.nd k).isSome = true := by
  simp only [Tr.livesI, Tr.lives, List.mem_map, List.mem_filter, List.mem_range]
  constructor
  · rintro ⟨j, ⟨_, h2⟩, rfl⟩; exact h2
  · intro h
    have := hw.sup k h
    exact ⟨k.toNat, ⟨by omega, by rw [show ((k.toNat : Nat) : Int) = k by omega]; exact h⟩, by omega⟩
theorem Tr.livesI_srt (T : Tr) : T.livesI.Pairwise (· < ·) := by
  refine List.pairwise_map.2 ?_
  refine (List.Pairwise.filter _ List.pairwise_lt_range).imp fun h => by omega
theorem Tr.livesI_len (T : Tr) : T.livesI.length = T.live := by simp [Tr.livesI, Tr.lives_len]
/-- Numbers in a row of the call's own. -/
def Ri (lo : Nat) (W : World) (v : Value) (l : List Int) : Prop := W.ownsRow lo 3 1 v l.length (l.map fun k => I k)
theorem Ri.below {lo : Nat} {W W' : World} {v : Value} {l : List Int} (h : Ri lo W v l) (g : Below W.heap.size W W') : Ri lo W' v l := own_keep h fun k _ e => g.block k (lt_of_heap e)
section
variable {lo N : Nat} {W W' : World} {t : Nat} {T : Tr} {q p : Nat} {nb : Int → Nat} {ev : Int → Value} {B : Nat}
set_option maxHeartbeats 1000000 in
theorem live_any (h : TrI lo N W t T q p nb ev) (hw : Wk B T) (hB : B ≤ 890) :
    Calls Try.prog 6 #[P0 t] W fun e w' => ∃ v, e = .returned v ∧ Ri W.heap.size w' v T.livesI ∧ Below W.heap.size W w' := by
  obtain ⟨c0, c1, c2, c3, cf⟩ := h.cells
  obtain ⟨D, hown, hD⟩ := h.hm
  have hq := hown.lt
  have hsz : Maps.size D = cnt (T.made + 1) (fun k => ((fun k => if (T.nd k).isSome = true then some (P0 (nb k)) else none) (k : Int)).isSome) := size_cnt hown hD (by have := hw.made; omega) (fun k _ e => hw.sup k (by simpa using e))
  have hsz2 : Maps.size D ≤ 900 := by rw [hsz]; have := cnt_le (T.made + 1) (fun k => ((fun k => if (T.nd k).isSome = true then some (P0 (nb k)) else none) (k : Int)).isSome); have := hw.made; omega
  have hperm : T.livesI.Perm (intKeys D) := by
    refine CollectedI.perm (left := fun _ => false) ⟨(T.livesI_srt).imp (fun h e => by omega), fun x => ?_⟩ hown law Try.underlying3 (fun _ => rfl)
    have e := map_keys hown hD x
    rw [T.livesI_mem hw]
    show _ ↔ Maps.has D (kl x) = true ∧ _
    rw [e]
    constructor
    · intro h1
      obtain ⟨y, hy⟩ := Option.isSome_iff_exists.1 h1
      exact ⟨⟨hw.wf (by omega) hy, by simp [h1]⟩, rfl⟩
    · rintro ⟨⟨_, h2⟩, _⟩
      simpa using h2
  have hsort : ∀ ss : List Int, ss.Perm (intKeys D) → ss.mergeSort (fun x y => decide (x ≤ y)) = T.livesI := fun ss hs => by
    have e1 := mergeSort_of_perm_i (hs.trans hperm.symm)
    rw [show (fun x y : Int => decide (x ≤ y)) = leI from rfl, e1]
    exact List.mergeSort_of_pairwise ((T.livesI_srt).imp fun h => by simp; omega)
  refine (callsIn_wide (n := 6)).1 ?_
  have hseq : SeqGives Fence.wide 2 Try.prog 41 #[.pointer (some ⟨W.heap.size, 0, none⟩)] encZ (fun ss => ss.Perm (intKeys D)) (Maps.size D) (W.alloc (.cells #[.map (some q)] 55)) :=
    AnyZI.keys_gives (ρ := Try.keysA_ren) { Try.keysA with } Fence.wide _ trivial rfl (by omega) W.heap.size q (T.made + 1) D _ (by simp) (by simp) (by
      obtain ⟨es, clock, hb, Ft, hs, hD⟩ := hown
      exact ⟨es, clock, (Below.heap_alloc _ _ q hq).trans hb, Ft, hs, hD⟩)
  have cK : ∀ mb w, CallsIn Fence.wide 5 Try.prog 23 #[.map mb] w fun e w' => e = .returned (.func (.func 41) #[] #[.pointer (some ⟨w.heap.size, 0, none⟩)]) ∧ w' = w.alloc (.cells #[.map mb] 55) := fun mb w => AnyZI.keys_in Try.keysA Fence.wide 5 trivial rfl mb w
  have cS := AnyZI.sorted_in Try.sortedA Fence.wide 5 trivial trivial trivial trivial rfl (by omega) (sortsA _) (enters_of Try.func40 (by kernel_rfl) rfl) 41 #[.pointer (some ⟨W.heap.size, 0, none⟩)] trivial (enters_of Try.func41 (by kernel_rfl) rfl) _ _ (by unfold maxLen; omega) (by omega) _ hseq
  change CallsIn _ _ Try.prog 22 _ _ _ at cS
  have hfK : Fence.wide.fn 23 := trivial
  have hfS : Fence.wide.fn 22 := trivial
  have HSO := hide hsort
  clear h hw hown hD hsz hperm hsort c0 c1 c3
  refine callsIn_of_wp Try.func6 rfl trivial ?_ rfl
  simp only [Try.ntmps6, List.size_toArray, List.length_cons, List.length_nil, Nat.reduceAdd, Nat.reduceSub, Array.replicate_succ, Array.replicate_zero, List.push_toArray, List.append_toArray, List.nil_append, List.cons_append]
  gi_wp2_with (first
    | (gi_at_call 23; refine (cK _ _).mono ?_; rintro e w' ⟨rfl, rfl⟩)
    | (gi_at_call 22; refine cS.mono ?_; rintro e w' ⟨v, ss, rfl, hS, hrow, hnil, hb⟩))
  go_ret
  have e2 := unhide HSO ss hS
  have hlen : ss.length = T.livesI.length := by rw [← e2]; simp
  rw [e2, hlen] at hrow
  exact ⟨v, rfl, own_base hrow (by simp), ((Below.refl _ W).alloc (Nat.le_refl _) _).trans (hb.mono (by simp))⟩
end
end Go.Proofs.Ytlngeaacjbdmhaa
