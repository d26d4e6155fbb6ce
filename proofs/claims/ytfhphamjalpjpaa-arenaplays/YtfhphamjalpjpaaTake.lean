/-
  The contracts of nextFree and Take: the first free slot is taken, the others move up; its generation grows by one and it holds what was handed in; where none is free nothing is turned.
-/
import Derived.Test.YtfhphamjalpjpaaFind
namespace Go.Proofs.Ytfhphamjalpjpaa
open Go.RowKit
attribute [local go_sem ↓] Go.wp_at_zero Go.wp_at_succ

theorem size3 : (Try.prog.info? 3).map (·.size) = some 1 := by kernel_rfl
theorem nums_get (q : List Nat) (j : Nat) (v : Value) (h : (nums q)[j]? = some v) : ∃ k : Nat, q[j]? = some k ∧ v = .int .i64 (k : Int) := by
  simp only [nums, List.getElem?_map, Option.map_eq_some_iff] at h
  obtain ⟨k, h1, h2⟩ := h
  exact ⟨k, h1, h2.symm⟩

/-- The free slots moved up by one. -/
theorem Ar.shift {W : World} {b c d n x : Nat} {gs : List Slot} {q : List Nat} {st : Int} (h : Ar W b c d n gs (x :: q) st) {cur : Array Value} (hc : W.heap[d]? = some (.cells cur 3)) :
    Ar ((W.setRow d (cur.toList.take 0 ++ (nums q ++ cur.toList.drop (0 + (nums q).length))).toArray).setCell ⟨b, 1, none⟩ (.slice (some ⟨d, 0, none⟩) q.length n)) b c d n gs q st ∧
    Fr b c d W ((W.setRow d (cur.toList.take 0 ++ (nums q ++ cur.toList.drop (0 + (nums q).length))).toArray).setCell ⟨b, 1, none⟩ (.slice (some ⟨d, 0, none⟩) q.length n)) := by
  obtain ⟨r, hr, hl⟩ := h.hd
  obtain ⟨n1, n2, n3⟩ := h.nb
  rw [hr] at hc
  simp only [Option.some.injEq, Obj.cells.injEq] at hc
  obtain ⟨hc, -, -⟩ := hc
  refine ⟨⟨?_, ?_, ⟨cur.toList.drop q.length, ?_, ?_⟩, h.len, h.nb, h.lo, h.hi⟩, rfl, rfl, rfl, by simp [World.setRow, World.setCell], ?_⟩
  · have e : (W.setRow d (cur.toList.take 0 ++ (nums q ++ cur.toList.drop (0 + (nums q).length))).toArray).heap[b]? = W.heap[b]? := setRow_other W d b _ n2
    exact heap_set (e.trans h.hb) 1 _
  · rw [Below.heap_setCell _ _ _ _ (Ne.symm n1), setRow_other W d c _ n3]; exact h.hc
  · rw [Below.heap_setCell _ _ _ _ (Ne.symm n2), setRow_heap _ _ _ _ _ _ hr]
    simp
  · rw [← hc]; simp at hl ⊢; omega
  · intro k _ h1 h2 h3
    rw [Below.heap_setCell _ _ _ _ h1, setRow_other W d k _ h3]

set_option maxRecDepth 100000 in
set_option maxHeartbeats 1000000 in
theorem next_many (b c d n x : Nat) (gs : List Slot) (q : List Nat) (st : Int) (w : World) (h : Ar w b c d n gs (x :: q) st) (hn1 : ¬ n = 1) :
    Calls Try.prog 27 #[.pointer (some ⟨b, 0, none⟩)] w fun e w' => e = .returned (.int .i64 (x : Int)) ∧ Ar w' b c d n gs q st ∧ Fr b c d w w' := by
  obtain ⟨h0, h1, h2, hf⟩ := h.cells
  obtain ⟨r, hr, hl⟩ := h.hd
  obtain ⟨n1, n2, n3⟩ := h.nb
  have hx : w.cell? ⟨d, 0, none⟩ = some (.int .i64 (x : Int)) := by rw [cell_of hr]; rfl
  have hS := h.drew.shift (cur := (nums (x :: q) ++ r).toArray) hr
  have hz : (nums q).length = q.length := by simp
  have hmin : (nums q).length = Nat.min (q.length + 1 - 1) (q.length + 1) := by simp
  have hfit : 0 + (nums q).length ≤ ((nums (x :: q) ++ r).toArray).size := by simp; omega
  have hsrc : ∀ j v, (nums q)[j]? = some v → w.drew.cell? ((⟨d, 1, none⟩ : Addr).add j) = some v := by
    intro j v hj
    have hr2 : w.drew.heap[d]? = some (.cells (nums (x :: q) ++ r).toArray 3) := hr
    have ea : (⟨d, 1, none⟩ : Addr).add j = ⟨d, j + 1, none⟩ := by unfold Addr.add; split <;> simp_all <;> omega
    have hj2 := (List.getElem?_eq_some_iff.1 hj).1
    rw [ea, cell_of hr2, List.getElem?_toArray, List.getElem?_append_left (by simp at hj2 ⊢; omega)]
    simpa [nums] using hj
  have hone : ∀ v ∈ nums q, v.oneCell' = true := by
    intro v hv
    obtain ⟨k, _, rfl⟩ := List.mem_map.1 hv
    rfl
  have hcp := fun ty => run_copy_row (P := Try.prog) w.drew 53 53 ty 3 d 0 (q.length + 1) n ⟨d, 1, none⟩ (q.length + 1 - 1) (n - 1) (nums (x :: q) ++ r).toArray 3 (nums q) Try.underlying53 size3 hr hmin hsrc hfit hone
  simp only [List.append_assoc] at hcp
  have e1 : (w.drew.setRow d ((nums (x :: q) ++ r).toArray.toList.take 0 ++ (nums q ++ (nums (x :: q) ++ r).toArray.toList.drop (0 + (nums q).length))).toArray).heap[b]? = w.drew.heap[b]? := setRow_other w.drew d b _ n2
  have hqn : q.length + 1 ≤ n := by simp at hl; omega
  clear hsrc hfit hmin hone hl h
  simp only [List.length_cons] at h1
  generalize (w.drew.setRow d ((nums (x :: q) ++ r).toArray.toList.take 0 ++ (nums q ++ (nums (x :: q) ++ r).toArray.toList.drop (0 + (nums q).length))).toArray) = W2 at hcp hS e1
  simp only [hz] at hcp
  have H2 := hide hS
  clear hr hS hz
  have g1 : W2.cell? ⟨b, 1, none⟩ = some (.slice (some ⟨d, 0, none⟩) (q.length + 1) n) := (World.cell?_of_block (w := w.drew) (a := ⟨b, 1, none⟩) e1).trans h1
  have gf : ∀ i, W2.frozen? ⟨b, i, none⟩ = false := by
    intro i
    have := hf i
    unfold World.frozen? at this ⊢
    rw [e1]; exact this
  clear e1
  generalize hlq : q.length = l at *
  generalize hL : l + 1 = L at *
  have j1 : (l : Int) ≤ (n : Int) := by omega
  have j2 : (1 : Int) ≤ (L : Int) := by omega
  have j3 : (L : Int) ≤ (n : Int) := by omega
  have j4 : (0 : Int) ≤ (l : Int) := by omega
  have HL := hide hL
  clear hL hlq
  go_enter Try.func27, Try.ntmps27
  go_wp2_with fail
  go_region_held3 (fun w' => w'.cell? ⟨b, 1, none⟩ = some (.slice (some ⟨d, 0, none⟩) L n) ∧ (∀ i, w'.frozen? ⟨b, i, none⟩ = false)) (go_keep) (fail)
  go_wp2_with fail
  go_ret
  exact ⟨rfl, (unhide H2).1, (Fr.refl b c d w).drew.trans (unhide H2).2⟩

set_option maxRecDepth 100000 in
set_option maxHeartbeats 1000000 in
theorem next_one (b c d x : Nat) (gs : List Slot) (st : Int) (w : World) (h : Ar w b c d 1 gs [x] st) :
    Calls Try.prog 27 #[.pointer (some ⟨b, 0, none⟩)] w fun e w' => e = .returned (.int .i64 (x : Int)) ∧ Ar w' b c d 1 gs [] st ∧ Fr b c d w w' := by
  obtain ⟨h0, h1, h2, hf⟩ := h.cells
  obtain ⟨r, hr, hl⟩ := h.hd
  obtain ⟨n1, n2, n3⟩ := h.nb
  have hx : w.cell? ⟨d, 0, none⟩ = some (.int .i64 (x : Int)) := by rw [cell_of hr]; rfl
  have hcp := fun ty => run_copy_none (P := Try.prog) w.drew 53 53 ty 3 (some ⟨d, 0, none⟩) (some ⟨d, 0, none⟩) 1 1 0 0 Try.underlying53 size3 rfl
  have hA : Ar (w.drew.setCell ⟨b, 1, none⟩ (.slice (some ⟨d, 0, none⟩) 0 1)) b c d 1 gs [] st := by
    refine ⟨heap_set (W := w.drew) h.hb 1 _, (Below.heap_setCell w.drew _ _ _ (Ne.symm n1)).trans h.hc, ⟨nums [x] ++ r, (Below.heap_setCell w.drew _ _ _ (Ne.symm n2)).trans hr, ?_⟩, h.len, h.nb, h.lo, h.hi⟩
    simp at hl ⊢; omega
  have H2 := hide hA
  clear hr hl h hA
  simp only [List.length_cons, List.length_nil] at h1
  go_enter Try.func27, Try.ntmps27
  go_wp2_with fail
  go_region_held3 (fun w' => w'.cell? ⟨b, 1, none⟩ = some (.slice (some ⟨d, 0, none⟩) 1 1) ∧ (∀ i, w'.frozen? ⟨b, i, none⟩ = false)) (go_keep) (fail)
  go_wp2_with fail
  go_ret
  exact ⟨rfl, unhide H2, (Fr.refl b c d w).drew.set (p := ⟨b, 1, none⟩) (.inl rfl) _⟩

theorem next_any (b c d n x : Nat) (gs : List Slot) (q : List Nat) (st : Int) (w : World) (h : Ar w b c d n gs (x :: q) st) :
    Calls Try.prog 27 #[.pointer (some ⟨b, 0, none⟩)] w fun e w' => e = .returned (.int .i64 (x : Int)) ∧ Ar w' b c d n gs q st ∧ Fr b c d w w' := by
  by_cases hn : n = 1
  · subst hn
    have hq : q = [] := by have := h.qle; simp at this; exact this
    subst hq
    exact next_one b c d x gs st w h
  · exact next_many b c d n x gs q st w h hn

set_option maxRecDepth 100000 in
set_option maxHeartbeats 1000000 in
theorem take_no (b c d n : Nat) (gs : List Slot) (st v : Int) (w : World) (h : Ar w b c d n gs [] st) :
    Calls Try.prog 10 #[.pointer (some ⟨b, 0, none⟩), .int .i64 v] w fun e w' => e = .returned (.tuple #[.agg #[.int .i64 0, .int .i64 0], .int .i64 13]) ∧ Ar w' b c d n gs [] st ∧ Below w.heap.size w w' := by
  obtain ⟨V, hV, v0, v1, vf, hB, hz⟩ := boxed w 0 0 29
  have hA := h.below hB
  obtain ⟨h0, h1, h2, hf⟩ := hA.cells
  have hbl := h.lt
  simp only [List.length_nil] at h1
  have hA2 : Ar ((V.setCell ⟨w.heap.size, 0, none⟩ (.int .i64 0)).setCell ⟨w.heap.size, 1, none⟩ (.int .i64 0)) b c d n gs [] st := (hA.setNew (p := ⟨w.heap.size, 0, none⟩) (by simp; omega) (by simp; omega) (by simp; omega) _).setNew (p := ⟨w.heap.size, 1, none⟩) (by simp; omega) (by simp; omega) (by simp; omega) _
  have HA := hide hA2
  clear h hA hA2
  go_enter Try.func10, Try.ntmps10
  go_wp2_with fail
  refine bodyPost_ret (v := .tuple #[.agg #[.int .i64 0, .int .i64 0], .int .i64 13]) (by simp [results, Try.results10, go_sem, v0, v1]) rfl ?_
  exact ⟨rfl, unhide HA, (hB.setCell (p := ⟨w.heap.size, 0, none⟩) (Nat.le_refl _) _).setCell (p := ⟨w.heap.size, 1, none⟩) (Nat.le_refl _) _⟩

set_option maxRecDepth 100000 in
set_option maxHeartbeats 1000000 in
theorem take_yes (b c d n k : Nat) (gs : List Slot) (q : List Nat) (st v g u : Int) (w : World) (h : Ar w b c d n gs (k :: q) st) (hk : gs[k]? = some (g, u)) (g0 : 0 ≤ g) (g1 : g ≤ 1000000) :
    Calls Try.prog 10 #[.pointer (some ⟨b, 0, none⟩), .int .i64 v] w fun e w' => e = .returned (.tuple #[.agg #[.int .i64 (k : Int), .int .i64 (g + 1)], .int .i64 0]) ∧ Ar w' b c d n (gs.set k (g + 1, v)) q st ∧ Fr b c d w w' := by
  obtain ⟨V, hV, v0, v1, vf, hB, hz⟩ := boxed w 0 0 29
  have hA := h.below hB
  obtain ⟨h0, h1, h2, hf⟩ := hA.cells
  have hbl := h.lt
  have k1 : k < n := h.klt hk
  have k2 : (k : Int) < (n : Int) := by omega
  have k3 : (0 : Int) ≤ (k : Int) := by omega
  have HN := hide (next_any b c d n k gs q st V hA)
  have h1' : V.cell? ⟨b, 1, none⟩ = some (.slice (some ⟨d, 0, none⟩) (q.length + 1) n) := h1
  have Hh := hide h
  have HB := hide hB
  have HK := hide hk
  clear h hA hk h1 hB
  generalize hq : q.length = l at *
  have e0 : ¬ ((l : Int) + 1 = 0) := by omega
  clear hq
  go_enter Try.func10, Try.ntmps10
  go_wp2_with fail
  refine (unhide HN).mono ?_
  rintro e w1 ⟨rfl, hA1, hF1⟩
  obtain ⟨y0, y1, y2, yf⟩ := hA1.cells
  obtain ⟨s0, s1, sf⟩ := hA1.slot (unhide HK)
  have hs1 := hF1.size
  have x0 : w1.cell? ⟨w.heap.size, 0, none⟩ = some (.int .i64 0) := (World.cell?_of_block (w := V) (a := ⟨w.heap.size, 0, none⟩) (hF1.block w.heap.size (by omega) (by omega) (by omega) (by omega))).trans v0
  have x1 : w1.cell? ⟨w.heap.size, 1, none⟩ = some (.int .i64 0) := (World.cell?_of_block (w := V) (a := ⟨w.heap.size, 1, none⟩) (hF1.block w.heap.size (by omega) (by omega) (by omega) (by omega))).trans v1
  have xf : ∀ i, w1.frozen? ⟨w.heap.size, i, none⟩ = false := by
    intro i
    have := vf i
    unfold World.frozen? at this ⊢
    rw [hF1.block w.heap.size (by omega) (by omega) (by omega) (by omega)]; exact this
  have hA2 := (hA1.setGen (unhide HK) (g + 1)).setVal (get_set (unhide HK) _) v
  rw [List.set_set] at hA2
  have hF2 := ((Fr.of_below (unhide HB)).trans hF1).set (p := ⟨c, k * 2, none⟩) (.inr (.inl rfl)) (.int .i64 (g + 1)) |>.set (p := ⟨c, k * 2 + 1, none⟩) (.inr (.inl rfl)) (.int .i64 v)
  have hne : w.heap.size ≠ c := by omega
  have H1 := hide hA2
  have H2 := hide hF2
  clear hA1 hF1 hA2 hF2 v0 v1 vf h0 h1' h2 hf HN Hh HB HK
  go_wp2_with fail
  refine bodyPost_ret (v := .tuple #[.agg #[.int .i64 (k : Int), .int .i64 (g + 1)], .int .i64 0]) (by simp [results, Try.results10, go_sem, x0, x1]) rfl ?_
  refine ⟨rfl, ?_, ?_⟩
  · exact ((unhide H1).setNew (p := ⟨w.heap.size, 0, none⟩) (by simp; omega) (by simp; omega) (by simp; omega) _).setNew (p := ⟨w.heap.size, 1, none⟩) (by simp; omega) (by simp; omega) (by simp; omega) _
  · exact ((unhide H2).setNew (p := ⟨w.heap.size, 0, none⟩) (Nat.le_refl _) _).setNew (p := ⟨w.heap.size, 1, none⟩) (Nat.le_refl _) _
end Go.Proofs.Ytfhphamjalpjpaa
