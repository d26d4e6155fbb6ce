/-
  The contract of access: the one access that is asked for is made if its cell is there, and told; else it is refused and nothing that lay has turned.
-/
import Derived.Test.YtkgeapmafpeapaaPlay
import Derived.Test.YtkgeapmafpeapaaRange
import Derived.RegionIn
namespace Go.Proofs.Ytkgeapmafpeapaa
open Go.RowKit Go.Shelf
attribute [local go_sem] Oper.semAt_some

theorem putAll {w : World} (o : Obj) (h : Nat) (hh : h = w.heap.size) : (w.alloc o).heap[h]? = some o := by
  subst hh; show (w.heap.push o)[w.heap.size]? = some o; simp
/-- Seven new blocks, one behind the other. -/
theorem seven (w : World) (o0 o1 o2 o3 o4 o5 o6 : Obj) : ∃ V, (((((((w.alloc o0).alloc o1).alloc o2).alloc o3).alloc o4).alloc o5).alloc o6) = V ∧
    V.heap.size = w.heap.size + 7 ∧ V.heap[w.heap.size + 1]? = some o1 ∧ V.heap[w.heap.size + 2]? = some o2 ∧ V.heap[w.heap.size + 3]? = some o3 ∧ V.heap[w.heap.size + 4]? = some o4 ∧
    V.heap[w.heap.size + 5]? = some o5 ∧ V.heap[w.heap.size + 6]? = some o6 ∧ Below w.heap.size w V := by
  refine ⟨_, rfl, by simp, ?_, ?_, ?_, ?_, ?_, ?_, (((((((Below.refl _ _).alloc (Nat.le_refl _) _).alloc (by simp) _).alloc (by simp; omega) _).alloc (by simp; omega) _).alloc (by simp; omega) _).alloc (by simp; omega) _).alloc (by simp; omega) _⟩
  · repeat (first | exact putAll _ _ (by simp) | rw [Below.heap_alloc _ _ _ (by simp)])
  · repeat (first | exact putAll _ _ (by simp) | rw [Below.heap_alloc _ _ _ (by simp)])
  · repeat (first | exact putAll _ _ (by simp) | rw [Below.heap_alloc _ _ _ (by simp)])
  · repeat (first | exact putAll _ _ (by simp) | rw [Below.heap_alloc _ _ _ (by simp)])
  · repeat (first | exact putAll _ _ (by simp) | rw [Below.heap_alloc _ _ _ (by simp)])
  · exact putAll _ _ (by simp)

/-- An access made, in a block. -/
abbrev accObj (k a o v : Int) (d : Bool) : Obj := .cells #[.int .i64 k, .int .i64 a, .int .i64 o, .int .i64 v, .bool d] 77

/-- An access stored over another one. -/
theorem five {W : World} {p : Nat} {k0 a0 o0 v0 : Int} {d0 : Bool} (h : W.heap[p]? = some (accObj k0 a0 o0 v0 d0)) (k a o v : Int) (d : Bool) :
    (((((W.setCell ⟨p, 0, none⟩ (.int .i64 k)).setCell ⟨p, 1, none⟩ (.int .i64 a)).setCell ⟨p, 2, none⟩ (.int .i64 o)).setCell ⟨p, 3, none⟩ (.int .i64 v)).setCell ⟨p, 4, none⟩ (.bool d)).heap[p]? = some (accObj k a o v d) ∧
    ∀ i, i ≠ p → (((((W.setCell ⟨p, 0, none⟩ (.int .i64 k)).setCell ⟨p, 1, none⟩ (.int .i64 a)).setCell ⟨p, 2, none⟩ (.int .i64 o)).setCell ⟨p, 3, none⟩ (.int .i64 v)).setCell ⟨p, 4, none⟩ (.bool d)).heap[i]? = W.heap[i]? := by
  refine ⟨heap_set (heap_set (heap_set (heap_set (heap_set h 0 _) 1 _) 2 _) 3 _) 4 _, fun i hi => ?_⟩
  rw [Below.heap_setCell _ _ _ _ hi, Below.heap_setCell _ _ _ _ hi, Below.heap_setCell _ _ _ _ hi, Below.heap_setCell _ _ _ _ hi, Below.heap_setCell _ _ _ _ hi]
theorem accCells {W : World} {p : Nat} {k a o v : Int} {d : Bool} (h : W.heap[p]? = some (accObj k a o v d)) :
    W.cell? ⟨p, 0, none⟩ = some (.int .i64 k) ∧ W.cell? ⟨p, 1, none⟩ = some (.int .i64 a) ∧ W.cell? ⟨p, 2, none⟩ = some (.int .i64 o) ∧ W.cell? ⟨p, 3, none⟩ = some (.int .i64 v) ∧ W.cell? ⟨p, 4, none⟩ = some (.bool d) ∧ ∀ i, W.frozen? ⟨p, i, none⟩ = false := by
  refine ⟨?_, ?_, ?_, ?_, ?_, frozen_of h⟩ <;> rw [cell_of h] <;> rfl
theorem Frm.putNew {b c : Nat} {u w : World} (h : Frm b c u w) {r : Nat} (hr : u.heap.size ≤ r) (o : Obj) : Frm b c u (w.putObj r o) :=
  ⟨h.os, h.tape, h.output, by rw [World.putObj_size]; exact h.size, fun k hk h1 h2 => (World.putObj_heap_other (by omega)).trans (h.block k hk h1 h2)⟩

set_option maxRecDepth 100000 in
set_option maxHeartbeats 1000000 in
theorem access_yes_in (b c n a : Nat) (ws : List Int) (st k0 a0 o0 v0 : Int) (d0 : Bool) (k old new : Int) (d : Bool) (w : World)
    (hk : k = 1 ∨ k = 2 ∨ k = 3) (hM : Mem w b c n ws st k0 a0 o0 v0 d0) (ha : a < n) (s0 : 0 ≤ st) (s1 : st ≤ 1000000) :
    CallsIn Fence.wide 4 Try.prog 33 #[.pointer (some ⟨b, 0, none⟩), .agg #[.int .i64 k, .int .i64 (a : Int), .int .i64 old, .int .i64 new, .bool d]] w fun e w' =>
      e = .returned (.tuple #[.agg #[.int .i64 k, .int .i64 (a : Int), .int .i64 (ws.getD a 0), .int .i64 (nwOf k old new (ws.getD a 0)), .bool (dnOf k old (ws.getD a 0))], .int .i64 0]) ∧
      Mem w' b c n (ws.set a (nwOf k old new (ws.getD a 0))) (st + 1) k a (ws.getD a 0) (nwOf k old new (ws.getD a 0)) (dnOf k old (ws.getD a 0)) ∧ Frm b c w w' := by
  have hro : Fence.wide.round = none := rfl
  have HK : Hid (k = 1 ∨ k = 2 ∨ k = 3) := hk
  clear hk
  refine callsIn_of_wp_marks Try.func33 rfl trivial ?_ hro
  simp only [Try.ntmps33, List.size_toArray, List.length_cons, List.length_nil, Nat.reduceAdd, Nat.reduceSub, Array.replicate_succ, Array.replicate_zero, List.push_toArray, List.append_toArray, List.nil_append, List.cons_append]
  gi_wp2_with fail
  refine ⟨trivial, (callsIn_wide.2 (play_any b _ _)).mono ?_⟩
  rintro e w' ⟨rfl, rfl⟩
  gi_wp2_with fail
  simp only [Nat.add_assoc, Nat.reduceAdd]
  obtain ⟨V, hV, hsz, g1, g2, g3, g4, g5, g6, hB⟩ := seven w (.cells #[.int .i64 k, .int .i64 (a : Int), .int .i64 old, .int .i64 new, .bool d] 77) (.cells #[.int .i64 0, .int .i64 0, .int .i64 0, .int .i64 0, .bool false] 77)
    (.cells #[.int .i64 0, .int .i64 0, .int .i64 0, .int .i64 0, .bool false] 77) (.cells #[.int .i64 1] 23) (.cells #[.int .i64 k, .int .i64 (a : Int), .int .i64 old, .int .i64 new, .bool d] 77)
    (.cells #[.pointer (some ⟨b, 0, none⟩)] 26) (.cells #[.slice (some ⟨w.heap.size + 4, 0, none⟩) 1 1] 102)
  rw [hV]
  clear hV
  have hM1 := hM.below hB
  have F1 : Frm b c w V := .of_below hB
  have hb := hM.blt
  have hc := hM.clt
  clear hB
  generalize hh : w.heap.size = h at *
  have Hh : Hid (w.heap.size = h) := hh
  clear hh
  refine wpIn_range_own hro (by omega) (gf := 49) (lb := #[.pointer (some ⟨h + 6, 0, none⟩), .pointer (some ⟨h + 5, 0, none⟩)]) rfl trivial (enters_of Try.func49 (by kernel_rfl) rfl) ?_
  intro r hF hst hpe htm hps has hbo
  have L1 : ((V.alloc (.deferred (some []))).alloc (.loop r)).heap[h + 8]? = some (.loop r) := putAll _ _ (by simp [hsz])
  have D1 : ((V.alloc (.deferred (some []))).alloc (.loop r)).heap[h + 7]? = some (.deferred (some [])) := (Below.heap_alloc _ _ _ (by simp [hsz])).trans (putAll _ _ (by simp [hsz]))
  have hB1 : Below V.heap.size V ((V.alloc (.deferred (some []))).alloc (.loop r)) := ((Below.refl _ _).alloc (Nat.le_refl _) _).alloc (by simp) _
  have S1 : ((V.alloc (.deferred (some []))).alloc (.loop r)).heap.size = h + 9 := by simp [hsz]
  generalize ((V.alloc (.deferred (some []))).alloc (.loop r)) = W1 at L1 D1 hB1 S1 ⊢
  replace g1 := (hB1.block _ (by omega)).trans g1
  replace g2 := (hB1.block _ (by omega)).trans g2
  replace g3 := (hB1.block _ (by omega)).trans g3
  replace g4 := (hB1.block _ (by omega)).trans g4
  replace g5 := (hB1.block _ (by omega)).trans g5
  replace g6 := (hB1.block _ (by omega)).trans g6
  replace hM1 := hM1.below hB1
  replace F1 := F1.trans (.of_below hB1)
  rw [hsz]
  clear hsz hB1 hM
  generalize hheld : ws.getD a 0 = held at *
  generalize hnw : nwOf k old new held = nw at *
  generalize hdn : dnOf k old held = dn at *
  refine (play1_yes (h + 8) (h + 6) (h + 5) (h + 4) b c n a ws st k0 a0 o0 v0 d0 k old new d W1
    (fun W2 => W2.heap[h + 8]? = some (.loop r) ∧ W2.heap[h + 7]? = some (.deferred (some [])) ∧ W2.heap[h + 1]? = some (accObj 0 0 0 0 false) ∧ W2.heap[h + 2]? = some (accObj k a held nw dn) ∧
      W2.heap[h + 3]? = some (.cells #[.int .i64 0] 23) ∧ Mem W2 b c n (ws.set a nw) (st + 1) k a held nw dn ∧ Frm b c w W2)
    (by rw [cell_of g6]; rfl) (by rw [cell_of g5]; rfl) ⟨g4⟩ hM1 HK.out ha s0 s1 (by omega) (by omega) ?_).mono ?_
  · rw [hheld, hnw, hdn]
    clear hheld hnw hdn
    intro W2 hM2 hF2
    have L2 := (hF2.block (h + 8) (by omega) (by omega) (by omega)).trans L1
    have D2 := (hF2.block (h + 7) (by omega) (by omega) (by omega)).trans D1
    have k1 := (hF2.block (h + 1) (by omega) (by omega) (by omega)).trans g1
    have k2 := (hF2.block (h + 2) (by omega) (by omega) (by omega)).trans g2
    have k3 := (hF2.block (h + 3) (by omega) (by omega) (by omega)).trans g3
    have F2 := F1.trans hF2
    have S2 : h + 9 ≤ W2.heap.size := by have := hF2.size; omega
    refine yield_own hF hst hpe htm hps has hbo rfl L2 ?_
    clear g1 g2 g3 g4 g5 g6 L1 D1 F1 S1 hM1 hF2 htm hps has hbo hst hpe
    intro rb
    gi_wp2
    have hB3 : Below W2.heap.size W2 (W2.alloc (.cells #[.int .i64 k, .int .i64 (a : Int), .int .i64 held, .int .i64 nw, .bool dn] 77)) := (Below.refl _ _).alloc (Nat.le_refl _) _
    refine ⟨(hB3.block _ (by omega)).trans L2, ?_⟩
    have X3 := Box.new W2 k a held nw dn
    replace L2 := (hB3.block _ (by omega)).trans L2
    replace D2 := (hB3.block _ (by omega)).trans D2
    replace k1 := (hB3.block _ (by omega)).trans k1
    replace k2 := (hB3.block _ (by omega)).trans k2
    replace k3 := (hB3.block _ (by omega)).trans k3
    replace hM2 := hM2.below hB3
    replace F2 := F2.trans (.of_below hB3)
    have S3 := hB3.size
    generalize (W2.alloc (.cells #[.int .i64 k, .int .i64 (a : Int), .int .i64 held, .int .i64 nw, .bool dn] 77)) = W3 at L2 D2 k1 k2 k3 hM2 F2 X3 S3 ⊢
    clear hB3
    generalize W2.heap.size = z at *
    replace L2 : (W3.putObj (h + 8) (.loop rb)).heap[h + 8]? = some (.loop rb) := World.putObj_heap_same (by omega)
    replace D2 := (World.putObj_heap_other (w := W3) (r := h + 8) (o := .loop rb) (k := h + 7) (by omega)).trans D2
    replace k1 := (World.putObj_heap_other (w := W3) (r := h + 8) (o := .loop rb) (k := h + 1) (by omega)).trans k1
    replace k2 := (World.putObj_heap_other (w := W3) (r := h + 8) (o := .loop rb) (k := h + 2) (by omega)).trans k2
    replace k3 := (World.putObj_heap_other (w := W3) (r := h + 8) (o := .loop rb) (k := h + 3) (by omega)).trans k3
    replace X3 := X3.of (World.putObj_heap_other (w := W3) (r := h + 8) (o := .loop rb) (k := z) (by omega))
    replace hM2 := hM2.of (World.putObj_heap_other (w := W3) (r := h + 8) (o := .loop rb) (k := b) (by omega)) (World.putObj_heap_other (w := W3) (r := h + 8) (o := .loop rb) (k := c) (by omega))
    replace F2 := F2.putNew (r := h + 8) (by rw [Hh.out]; omega) (.loop rb)
    generalize W3.putObj (h + 8) (.loop rb) = W4 at *
    obtain ⟨x0, x1, x2, x3, x4⟩ := X3.cells
    obtain ⟨y0, y1, y2, y3, y4, yf⟩ := accCells k2
    have t0 : W4.cell? ⟨h + 3, 0, none⟩ = some (.int .i64 1) := by rw [cell_of k3]; rfl
    have tf := frozen_of k3
    have zf := frozen_of X3.hg
    refine wpIn_mono (Q := fun e _ w1 => e = Exit.normal ∧ w1 = ((((((W4.setCell ⟨h + 2, 0, none⟩ (.int .i64 k)).setCell ⟨h + 2, 1, none⟩ (.int .i64 a)).setCell ⟨h + 2, 2, none⟩ (.int .i64 held)).setCell ⟨h + 2, 3, none⟩ (.int .i64 nw)).setCell ⟨h + 2, 4, none⟩ (.bool dn)).setCell ⟨h + 3, 0, none⟩ (.int .i64 0))) ?_ ?_
    · clear L2 D2 k1 k2 k3 X3 hM2 F2 Hh S2 S3 hF
      gi_wp2
    · rintro e a1 w1 ⟨rfl, rfl⟩
      obtain ⟨v2, vo⟩ := five k2 k a held nw dn
      have F3 : Frm b c w (((((W4.setCell ⟨h + 2, 0, none⟩ (.int .i64 k)).setCell ⟨h + 2, 1, none⟩ (.int .i64 a)).setCell ⟨h + 2, 2, none⟩ (.int .i64 held)).setCell ⟨h + 2, 3, none⟩ (.int .i64 nw)).setCell ⟨h + 2, 4, none⟩ (.bool dn)) := by
        have e : w.heap.size ≤ h + 2 := by rw [Hh.out]; omega
        exact ((((F2.setNew e _).setNew e _).setNew e _).setNew e _).setNew e _
      generalize (((((W4.setCell ⟨h + 2, 0, none⟩ (.int .i64 k)).setCell ⟨h + 2, 1, none⟩ (.int .i64 a)).setCell ⟨h + 2, 2, none⟩ (.int .i64 held)).setCell ⟨h + 2, 3, none⟩ (.int .i64 nw)).setCell ⟨h + 2, 4, none⟩ (.bool dn)) = W5 at v2 vo F3 ⊢
      replace L2 := (vo _ (by omega)).trans L2
      replace D2 := (vo _ (by omega)).trans D2
      replace k1 := (vo _ (by omega)).trans k1
      replace k3 := (vo _ (by omega)).trans k3
      replace hM2 := hM2.of (vo _ (by omega)) (vo _ (by omega))
      have v3 := heap_set k3 0 (.int .i64 0)
      have wo : ∀ i, i ≠ h + 3 → (W5.setCell ⟨h + 3, 0, none⟩ (.int .i64 0)).heap[i]? = W5.heap[i]? := fun i hi => Below.heap_setCell _ _ _ _ hi
      have F4 := F3.setNew (p := ⟨h + 3, 0, none⟩) (by show w.heap.size ≤ h + 3; rw [Hh.out]; omega) (.int .i64 0)
      generalize W5.setCell ⟨h + 3, 0, none⟩ (.int .i64 0) = W6 at v3 wo F4 ⊢
      have S6 : h + 8 < W6.heap.size := (Array.getElem?_eq_some_iff.1 ((wo (h + 8) (by omega)).trans L2)).1
      have po : ∀ i, i ≠ h + 8 → (W6.putObj (h + 8) (.loop r)).heap[i]? = W6.heap[i]? := fun i hi => World.putObj_heap_other hi
      refine ⟨rfl, (wo _ (by omega)).trans L2, trivial, World.putObj_heap_same S6, ?_, ?_, ?_, ?_, ?_, F4.putNew (by rw [Hh.out]; omega) _⟩
      · exact (po _ (by omega)).trans ((wo _ (by omega)).trans D2)
      · exact (po _ (by omega)).trans ((wo _ (by omega)).trans k1)
      · exact (po _ (by omega)).trans ((wo _ (by omega)).trans v2)
      · exact (po _ (by omega)).trans v3
      · exact hM2.of ((po _ (by omega)).trans (wo _ (by omega))) ((po _ (by omega)).trans (wo _ (by omega)))
  · rintro e W2 ⟨rfl, L2, D2, k1, k2, k3, hM2, F2⟩
    refine ⟨⟨_, rfl⟩, L2, ?_⟩
    have po : ∀ i, i ≠ h + 8 → (W2.putObj (h + 8) (.loop { r with state := .exhausted })).heap[i]? = W2.heap[i]? := fun i hi => World.putObj_heap_other hi
    have F3 := F2.putNew (r := h + 8) (by rw [Hh.out]; omega) (.loop { r with state := .exhausted })
    generalize W2.putObj (h + 8) (.loop { r with state := .exhausted }) = W3 at po F3 ⊢
    replace D2 := (po _ (by omega)).trans D2
    replace k1 := (po _ (by omega)).trans k1
    replace k2 := (po _ (by omega)).trans k2
    replace k3 := (po _ (by omega)).trans k3
    replace hM2 := hM2.of (po _ (by omega)) (po _ (by omega))
    obtain ⟨x0, x1, x2, x3, x4, xf⟩ := accCells k1
    obtain ⟨y0, y1, y2, y3, y4, yf⟩ := accCells k2
    have t0 : W3.cell? ⟨h + 3, 0, none⟩ = some (.int .i64 0) := by rw [cell_of k3]; rfl
    clear po L2 g1 g2 g3 g4 g5 g6 L1 D1 S1 hM1 F1 htm hps has hbo hst hpe
    have HH : Hid (W3.heap[h + 7]? = some (.deferred (some [])) ∧ W3.heap[h + 1]? = some (accObj 0 0 0 0 false)) := ⟨D2, k1⟩
    clear D2 k1 k2 k3
    gi_wp2
    gi_region
    all_goals gi_wp2
    obtain ⟨D3, k1⟩ := HH.out
    obtain ⟨v1, vo⟩ := five k1 k a held nw dn
    have F4 : Frm b c w (((((W3.setCell ⟨h + 1, 0, none⟩ (.int .i64 k)).setCell ⟨h + 1, 1, none⟩ (.int .i64 a)).setCell ⟨h + 1, 2, none⟩ (.int .i64 held)).setCell ⟨h + 1, 3, none⟩ (.int .i64 nw)).setCell ⟨h + 1, 4, none⟩ (.bool dn)) := by
      have e : w.heap.size ≤ h + 1 := by rw [Hh.out]; omega
      exact ((((F3.setNew e _).setNew e _).setNew e _).setNew e _).setNew e _
    generalize (((((W3.setCell ⟨h + 1, 0, none⟩ (.int .i64 k)).setCell ⟨h + 1, 1, none⟩ (.int .i64 a)).setCell ⟨h + 1, 2, none⟩ (.int .i64 held)).setCell ⟨h + 1, 3, none⟩ (.int .i64 nw)).setCell ⟨h + 1, 4, none⟩ (.bool dn)) = W5 at v1 vo F4 ⊢
    have D5 : W5.drew.heap[h + 7]? = some (.deferred (some [])) := (vo _ (by omega)).trans D3
    refine ⟨by simp, .inl ⟨_, _, rfl, run_takeDeferred D5, ?_⟩⟩
    have po : ∀ i, i ≠ h + 7 → (W5.drew.putObj (h + 7) (.deferred none)).heap[i]? = W5.heap[i]? := fun i hi => World.putObj_heap_other hi
    have F6 := F4.drew.putNew (r := h + 7) (by rw [Hh.out]; omega) (.deferred none)
    generalize W5.drew.putObj (h + 7) (.deferred none) = W6 at po F6 ⊢
    obtain ⟨z0, z1, z2, z3, z4, zf⟩ := accCells ((po _ (by omega)).trans v1)
    have hM6 := hM2.of ((po _ (by omega)).trans (vo _ (by omega))) ((po _ (by omega)).trans (vo _ (by omega)))
    rw [hheld, hnw, hdn]
    clear v1 vo po D5 D3 k1 HH x0 x1 x2 x3 x4 xf y0 y1 y2 y3 y4 yf t0
    refine ⟨.tuple #[.agg #[.int .i64 k, .int .i64 (a : Int), .int .i64 held, .int .i64 nw, .bool dn], .int .i64 0], ?_, rfl, hM6, F6⟩
    simp [results, Try.results33, go_sem, z0, z1, z2, z3, z4]

end Go.Proofs.Ytkgeapmafpeapaa
