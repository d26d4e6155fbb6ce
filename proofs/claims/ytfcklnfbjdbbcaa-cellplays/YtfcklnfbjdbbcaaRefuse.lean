/-
  The contract of access where there is no such cell: it is refused, and nothing that lay has turned.
-/
import Derived.Test.YtfcklnfbjdbbcaaAccess
namespace Go.Proofs.Ytfcklnfbjdbbcaa
open Go.RowKit Go.Shelf
attribute [local go_sem] Oper.semAt_some

theorem below_put {B : Nat} {u w : World} (h : Below B u w) {r : Nat} (hr : B ≤ r) (o : Obj) : Below B u (w.putObj r o) :=
  ⟨h.os, h.tape, h.output, by rw [World.putObj_size]; exact h.size, fun k hk => (World.putObj_heap_other (by omega)).trans (h.block k hk)⟩

set_option maxRecDepth 100000 in
set_option maxHeartbeats 1000000 in
theorem access_no_in (b c n : Nat) (a : Int) (k old new : Int) (d : Bool) (w : World)
    (hm : w.cell? ⟨b, 0, none⟩ = some (.slice (some ⟨c, 0, none⟩) n n)) (ha : a < 0 ∨ (n : Int) ≤ a) :
    CallsIn Fence.wide 4 Try.prog 20 #[.pointer (some ⟨b, 0, none⟩), .agg #[.int .i64 k, .int .i64 a, .int .i64 old, .int .i64 new, .bool d]] w fun e w' =>
      e = .returned (.tuple #[.agg #[.int .i64 0, .int .i64 0, .int .i64 0, .int .i64 0, .bool false], .int .i64 1]) ∧ Below w.heap.size w w' := by
  have hro : Fence.wide.round = none := rfl
  have HA : Hid (a < 0 ∨ (n : Int) ≤ a) := ha
  clear ha
  refine callsIn_of_wp_marks Try.func20 rfl trivial ?_ hro
  simp only [Try.ntmps20, List.size_toArray, List.length_cons, List.length_nil, Nat.reduceAdd, Nat.reduceSub, Array.replicate_succ, Array.replicate_zero, List.push_toArray, List.append_toArray, List.nil_append, List.cons_append]
  gi_wp2_with fail
  refine ⟨trivial, (callsIn_wide.2 (play_any b _ _)).mono ?_⟩
  rintro e w' ⟨rfl, rfl⟩
  gi_wp2_with fail
  simp only [Nat.add_assoc, Nat.reduceAdd]
  obtain ⟨V, hV, hsz, g1, g2, g3, g4, g5, g6, hB⟩ := seven w (.cells #[.int .i64 k, .int .i64 a, .int .i64 old, .int .i64 new, .bool d] 27) (.cells #[.int .i64 0, .int .i64 0, .int .i64 0, .int .i64 0, .bool false] 27)
    (.cells #[.int .i64 0, .int .i64 0, .int .i64 0, .int .i64 0, .bool false] 27) (.cells #[.int .i64 1] 23) (.cells #[.int .i64 k, .int .i64 a, .int .i64 old, .int .i64 new, .bool d] 27)
    (.cells #[.pointer (some ⟨b, 0, none⟩)] 22) (.cells #[.slice (some ⟨w.heap.size + 4, 0, none⟩) 1 1] 63)
  rw [hV]
  clear hV
  have hb : b < w.heap.size := cell_lt hm
  have hm1 : V.cell? ⟨b, 0, none⟩ = some (.slice (some ⟨c, 0, none⟩) n n) := (hB.cell hb).trans hm
  refine wpIn_range_own hro (by omega) (gf := 22) (lb := #[.pointer (some ⟨w.heap.size + 6, 0, none⟩), .pointer (some ⟨w.heap.size + 5, 0, none⟩)]) rfl trivial (enters_of Try.func22 (by kernel_rfl) rfl) ?_
  intro r hF hst hpe htm hps has hbo
  have L1 : ((V.alloc (.deferred (some []))).alloc (.loop r)).heap[w.heap.size + 8]? = some (.loop r) := putAll _ _ (by simp [hsz])
  have D1 : ((V.alloc (.deferred (some []))).alloc (.loop r)).heap[w.heap.size + 7]? = some (.deferred (some [])) := (Below.heap_alloc _ _ _ (by simp [hsz])).trans (putAll _ _ (by simp [hsz]))
  have hB1 : Below V.heap.size V ((V.alloc (.deferred (some []))).alloc (.loop r)) := ((Below.refl _ _).alloc (Nat.le_refl _) _).alloc (by simp) _
  have S1 : ((V.alloc (.deferred (some []))).alloc (.loop r)).heap.size = w.heap.size + 9 := by simp [hsz]
  generalize ((V.alloc (.deferred (some []))).alloc (.loop r)) = W1 at L1 D1 hB1 S1 ⊢
  replace g1 := (hB1.block _ (by omega)).trans g1
  replace g2 := (hB1.block _ (by omega)).trans g2
  replace g3 := (hB1.block _ (by omega)).trans g3
  replace g4 := (hB1.block _ (by omega)).trans g4
  replace g5 := (hB1.block _ (by omega)).trans g5
  replace g6 := (hB1.block _ (by omega)).trans g6
  replace hm1 := (hB1.cell (p := ⟨b, 0, none⟩) (by show b < _; omega)).trans hm1
  have hB2 : Below w.heap.size w W1 := hB.trans (hB1.mono (by omega))
  rw [hsz]
  clear hsz hB1 hB hm
  refine (play1_no (w.heap.size + 8) (w.heap.size + 6) (w.heap.size + 5) (w.heap.size + 4) b c n a k old new d W1 (by rw [cell_of g6]; rfl) (by rw [cell_of g5]; rfl) ⟨g4⟩ hm1 HA.out).mono ?_
  rintro e W2 ⟨rfl, hB3⟩
  have L2 := (hB3.block _ (by omega)).trans L1
  have D2 := (hB3.block _ (by omega)).trans D1
  have k1 := (hB3.block _ (by omega)).trans g1
  have k2 := (hB3.block _ (by omega)).trans g2
  have k3 := (hB3.block _ (by omega)).trans g3
  refine ⟨⟨_, rfl⟩, L2, ?_⟩
  have hB4 : Below w.heap.size w W2 := hB2.trans (hB3.mono (by omega))
  have po : ∀ i, i ≠ w.heap.size + 8 → (W2.putObj (w.heap.size + 8) (.loop { r with state := .exhausted })).heap[i]? = W2.heap[i]? := fun i hi => World.putObj_heap_other hi
  have F3 := below_put hB4 (r := w.heap.size + 8) (by omega) (.loop { r with state := .exhausted })
  generalize W2.putObj (w.heap.size + 8) (.loop { r with state := .exhausted }) = W3 at po F3 ⊢
  replace D2 := (po _ (by omega)).trans D2
  replace k1 := (po _ (by omega)).trans k1
  replace k2 := (po _ (by omega)).trans k2
  replace k3 := (po _ (by omega)).trans k3
  obtain ⟨x0, x1, x2, x3, x4, xf⟩ := accCells k1
  obtain ⟨y0, y1, y2, y3, y4, yf⟩ := accCells k2
  have t0 : W3.cell? ⟨w.heap.size + 3, 0, none⟩ = some (.int .i64 1) := by rw [cell_of k3]; rfl
  clear po L2 g1 g2 g3 g4 g5 g6 L1 D1 S1 hm1 hB2 hB3 hB4 htm hps has hbo hst hpe k2 k3
  have HH : Hid (W3.heap[w.heap.size + 7]? = some (.deferred (some [])) ∧ W3.heap[w.heap.size + 1]? = some (accObj 0 0 0 0 false)) := ⟨D2, k1⟩
  clear D2 k1
  generalize hh : w.heap.size = h at *
  have Hh : Hid (w.heap.size = h) := hh
  clear hh
  gi_wp2
  gi_region
  all_goals gi_wp2
  obtain ⟨D3, k1⟩ := HH.out
  obtain ⟨v1, vo⟩ := five k1 0 0 0 0 false
  have F4 : Below h w (((((W3.setCell ⟨h + 1, 0, none⟩ (.int .i64 0)).setCell ⟨h + 1, 1, none⟩ (.int .i64 0)).setCell ⟨h + 1, 2, none⟩ (.int .i64 0)).setCell ⟨h + 1, 3, none⟩ (.int .i64 0)).setCell ⟨h + 1, 4, none⟩ (.bool false)) := by
    have e : h ≤ h + 1 := by omega
    exact ((((F3.setCell e _).setCell e _).setCell e _).setCell e _).setCell e _
  generalize (((((W3.setCell ⟨h + 1, 0, none⟩ (.int .i64 0)).setCell ⟨h + 1, 1, none⟩ (.int .i64 0)).setCell ⟨h + 1, 2, none⟩ (.int .i64 0)).setCell ⟨h + 1, 3, none⟩ (.int .i64 0)).setCell ⟨h + 1, 4, none⟩ (.bool false)) = W5 at v1 vo F4 ⊢
  have D5 : W5.drew.heap[h + 7]? = some (.deferred (some [])) := (vo _ (by omega)).trans D3
  refine ⟨by simp, .inl ⟨_, _, rfl, run_takeDeferred D5, ?_⟩⟩
  have po : ∀ i, i ≠ h + 7 → (W5.drew.putObj (h + 7) (.deferred none)).heap[i]? = W5.heap[i]? := fun i hi => World.putObj_heap_other hi
  have F6 := below_put F4.drew (r := h + 7) (by omega) (.deferred none)
  generalize W5.drew.putObj (h + 7) (.deferred none) = W6 at po F6 ⊢
  obtain ⟨z0, z1, z2, z3, z4, zf⟩ := accCells ((po _ (by omega)).trans v1)
  clear v1 vo po D5 D3 k1 HH x0 x1 x2 x3 x4 xf y0 y1 y2 y3 y4 yf t0
  refine ⟨.tuple #[.agg #[.int .i64 0, .int .i64 0, .int .i64 0, .int .i64 0, .bool false], .int .i64 1], ?_, rfl, by rw [Hh.out]; exact F6⟩
  simp [results, Try.results20, go_sem, z0, z1, z2, z3, z4]

end Go.Proofs.Ytfcklnfbjdbbcaa
