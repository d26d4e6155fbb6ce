/-
  GraceSafe's memory between two calls: a Grace of four readers, two arrays of four numbers, and the row of times.
-/
import Derived.Test.YtkgcgfnleabkdaaSafeA
namespace Go.Proofs.Ytkgcgfnleabkdaa
open Go.RowKit

structure SS (h p : Nat) (w W : World) (ss ns sn wh : List Int) (ws : List Wt) (v7 : Value) : Prop where
  gr : Gr h W (h + 1) h 4 ss ws
  k5 : W.heap[p]? = some (.cells (ints ns).toArray 46)
  k6 : W.heap[p + 1]? = some (.cells (ints sn).toArray 46)
  o7 : W.ownsRow (p + 2) 3 1 v7 wh.length (ints wh)
  be : Below h w W
  pl : h + 1 < p
variable {h p : Nat} {w W W' : World} {ss ns sn wh : List Int} {ws : List Wt} {v7 : Value}
theorem SS.below (S : SS h p w W ss ns sn wh ws v7) (hB : Below W.heap.size W W') : SS h p w W' ss ns sn wh ws v7 :=
  ⟨S.gr.below hB, (hB.block _ (lt_of_heap S.k5)).trans S.k5, (hB.block _ (lt_of_heap S.k6)).trans S.k6, own_below hB S.o7, S.be.trans (hB.mono S.gr.base_le), S.pl⟩
theorem SS.dn (S : SS h p w W ss ns sn wh ws v7) (m : Nat) : SS h p w (W.drewN m) ss ns sn wh ws v7 := S.below ⟨rfl, rfl, rfl, Nat.le_refl _, fun _ _ => rfl⟩
theorem SS.fr {ss' : List Int} {ws' : List Wt} (S : SS h p w W ss ns sn wh ws v7) (G : Gr h W' (h + 1) h 4 ss' ws') (F : Fr h (h + 1) h W W') : SS h p w W' ss' ns sn wh ws' v7 := by
  have hp := S.pl
  exact ⟨G, F.blk _ _ S.k5 (by omega) (by omega) (by simp), F.blk _ _ S.k6 (by omega) (by omega) (by simp), own_fr F S.o7 (by decide) (by omega) (by omega), S.be.trans F.below, S.pl⟩
theorem SS.set {k : Nat} {x : Int} (S : SS h p w W ss ns sn wh ws v7) : SS h p w (W.setCell ⟨p, k, none⟩ (.int .i64 x)) ss (ns.set k x) sn wh ws v7 := by
  have hp := S.pl
  have ne : ∀ {k' : Nat} {cur : Array Value} {t : TypeId}, W.heap[k']? = some (.cells cur t (0, 0)) → t ≠ 46 → k' ≠ p := by
    rintro k' cur t h1 h2 rfl
    rw [S.k5] at h1
    simp at h1
    exact h2 h1.2.symm
  refine ⟨S.gr.keep fun k' cur t hc ho => Below.heap_setCell _ _ _ _ ?_, ?_, (Below.heap_setCell _ _ _ _ (by simp)).trans S.k6, own_keep S.o7 fun k' cur hc => Below.heap_setCell _ _ _ _ (ne hc (by decide)), S.be.setCell (p := ⟨p, k, none⟩) (by show h ≤ p; omega) _, S.pl⟩
  · rcases ho with rfl | rfl | rfl
    · show h + 1 ≠ p; omega
    · show k' ≠ p; omega
    · exact ne hc (by decide)
  · rw [heap_set S.k5]; simp [ints, List.map_set]
theorem SS.setSn {k : Nat} {x : Int} (S : SS h p w W ss ns sn wh ws v7) : SS h p w (W.setCell ⟨p + 1, k, none⟩ (.int .i64 x)) ss ns (sn.set k x) wh ws v7 := by
  have hp := S.pl
  have ne : ∀ {k' : Nat} {cur : Array Value} {t : TypeId}, W.heap[k']? = some (.cells cur t (0, 0)) → t ≠ 46 → k' ≠ p + 1 := by
    rintro k' cur t h1 h2 rfl
    rw [S.k6] at h1
    simp at h1
    exact h2 h1.2.symm
  refine ⟨S.gr.keep fun k' cur t hc ho => Below.heap_setCell _ _ _ _ ?_, (Below.heap_setCell _ _ _ _ (by simp)).trans S.k5, ?_, own_keep S.o7 fun k' cur hc => Below.heap_setCell _ _ _ _ (ne hc (by decide)), S.be.setCell (p := ⟨p + 1, k, none⟩) (by show h ≤ p + 1; omega) _, S.pl⟩
  · rcases ho with rfl | rfl | rfl
    · show h + 1 ≠ p + 1; omega
    · show k' ≠ p + 1; omega
    · exact ne hc (by decide)
  · rw [heap_set S.k6]; simp [ints, List.map_set]
/-- One time more. -/
theorem SS.app {o' : Obj} {v' : Value} {x : Int} (S : SS h p w W ss ns sn wh ws v7) (hg : (W.alloc o').grownBy W' v7.ownBlock) (own' : W'.ownsRow (p + 2) 3 1 v' (wh.length + 1) (ints wh ++ [.int .i64 x])) : SS h p w W' ss ns sn (wh ++ [x]) ws v' := by
  have hp := S.pl
  have hk : ∀ (k : Nat) (o : Obj), W.heap[k]? = some o → k < p + 2 → W'.heap[k]? = some o := by
    intro k o h1 h2
    have h3 := hg.block k (by simp; exact Nat.lt_succ_of_lt (lt_of_heap h1)) (by
      obtain ⟨-, ⟨rfl, hz⟩ | ⟨g', cap, cur, rfl, hgb, _⟩⟩ := S.o7
      · simp [Value.ownBlock]
      · simp only [Value.ownBlock, ne_eq, Option.some.injEq]; omega)
    rw [Below.heap_alloc _ _ _ (lt_of_heap h1)] at h3
    exact h3.trans h1
  have hl6 := lt_of_heap S.k6
  have hsz : h ≤ W.heap.size := by omega
  have own1 : (W.alloc o').ownsRow (p + 2) 3 1 v7 wh.length (ints wh) := own_keep S.o7 fun k cur hc => Below.heap_alloc _ _ _ (lt_of_heap hc)
  refine ⟨S.gr.keep fun k cur t hc ho => ?_, hk _ _ S.k5 (by omega), hk _ _ S.k6 (by omega), by simpa [ints] using own', ?_, S.pl⟩
  · rcases ho with rfl | rfl | rfl
    · exact (hk _ _ hc (by omega)).trans hc.symm
    · exact (hk _ _ hc (by omega)).trans hc.symm
    · exact (grown_keep S.o7 hg hc (by simp)).trans hc.symm
  · exact below_grown (S.be.alloc hsz o') (own_base own1 (by omega)) hg (by simp; omega)
theorem SS.inAt (S : SS h p w W ss ns sn wh ws v7) {k : Nat} {s : Int} (hk : ns[k]? = some s) : W.cell? ⟨p, k, none⟩ = some (.int .i64 s) := by
  rw [cell_of S.k5, List.getElem?_toArray]; simp [ints, hk]
theorem SS.snAt (S : SS h p w W ss ns sn wh ws v7) {k : Nat} {s : Int} (hk : sn[k]? = some s) : W.cell? ⟨p + 1, k, none⟩ = some (.int .i64 s) := by
  rw [cell_of S.k6, List.getElem?_toArray]; simp [ints, hk]
theorem SS.fz (S : SS h p w W ss ns sn wh ws v7) : (∀ i, W.frozen? ⟨p, i, none⟩ = false) ∧ (∀ i, W.frozen? ⟨p + 1, i, none⟩ = false) := ⟨frozen_of S.k5, frozen_of S.k6⟩
end Go.Proofs.Ytkgcgfnleabkdaa
