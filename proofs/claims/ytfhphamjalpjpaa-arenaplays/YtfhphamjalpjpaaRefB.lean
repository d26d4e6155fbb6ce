/-
  The contracts of the document's Take, Free, Get and Set.
-/
import Derived.Test.YtfhphamjalpjpaaRefA
import Derived.Deep.RegionLaw
namespace Go.Proofs.Ytfhphamjalpjpaa
open Go.RowKit
attribute [local go_sem ↓] Go.wp_at_zero Go.wp_at_succ

set_option maxRecDepth 100000 in
set_option maxHeartbeats 1000000 in
theorem rget_bad (B rb gb vb n : Nat) (gs : List Slot) (q : List Nat) (tv : Value) (st s x er m : Int) (w : World) (h : RA B w rb gb vb n gs q tv st) (hbad : Bad gs s x er m) (s0 : 0 ≤ st) (s1 : st ≤ 1000000) (hB0 : B ≤ w.heap.size) :
    Calls Try.prog 22 #[.pointer (some ⟨rb, 0, none⟩), .agg #[.int .i64 s, .int .i64 x]] w fun e w' => e = .returned (.tuple #[.int .i64 0, .int .i64 er]) ∧ RA B w' rb gb vb n gs q tv (st + m) ∧ FrS B w w' := by
  obtain ⟨V, hV, v0, v1, vf, hB, hz⟩ := boxed w s x 44
  have HN := hide (check_bad B rb gb vb n gs q tv st s x er m V (h.below hB) hbad s0 s1 (by omega))
  have he := hbad.ne
  clear h hbad
  go_enter Try.func22, Try.ntmps22
  go_wp2_with fail
  refine (unhide HN).mono ?_
  rintro e w1 ⟨rfl, hA1, hF1⟩
  clear HN
  go_wp2_with fail
  go_ret2
  exact ⟨rfl, hA1, (FrS.of_below hB hB0).trans hF1⟩

set_option maxRecDepth 100000 in
set_option maxHeartbeats 1000000 in
theorem rset_bad (B rb gb vb n : Nat) (gs : List Slot) (q : List Nat) (tv : Value) (st s x er m v : Int) (w : World) (h : RA B w rb gb vb n gs q tv st) (hbad : Bad gs s x er m) (s0 : 0 ≤ st) (s1 : st ≤ 1000000) (hB0 : B ≤ w.heap.size) :
    Calls Try.prog 23 #[.pointer (some ⟨rb, 0, none⟩), .agg #[.int .i64 s, .int .i64 x], .int .i64 v] w fun e w' => e = .returned (.int .i64 er) ∧ RA B w' rb gb vb n gs q tv (st + m) ∧ FrS B w w' := by
  obtain ⟨V, hV, v0, v1, vf, hB, hz⟩ := boxed w s x 44
  have HN := hide (check_bad B rb gb vb n gs q tv st s x er m V (h.below hB) hbad s0 s1 (by omega))
  have he := hbad.ne
  clear h hbad
  go_enter Try.func23, Try.ntmps23
  go_wp2_with fail
  refine (unhide HN).mono ?_
  rintro e w1 ⟨rfl, hA1, hF1⟩
  clear HN
  go_wp2_with fail
  go_ret
  exact ⟨rfl, hA1, (FrS.of_below hB hB0).trans hF1⟩

set_option maxRecDepth 100000 in
set_option maxHeartbeats 1000000 in
theorem rfree_bad (B rb gb vb n : Nat) (gs : List Slot) (q : List Nat) (tv : Value) (st s x er m : Int) (w : World) (h : RA B w rb gb vb n gs q tv st) (hbad : Bad gs s x er m) (s0 : 0 ≤ st) (s1 : st ≤ 1000000) (hB0 : B ≤ w.heap.size) :
    Calls Try.prog 21 #[.pointer (some ⟨rb, 0, none⟩), .agg #[.int .i64 s, .int .i64 x]] w fun e w' => e = .returned (.int .i64 er) ∧ RA B w' rb gb vb n gs q tv (st + m) ∧ FrS B w w' := by
  obtain ⟨V, hV, v0, v1, vf, hB, hz⟩ := boxed w s x 44
  have HN := hide (check_bad B rb gb vb n gs q tv st s x er m V (h.below hB) hbad s0 s1 (by omega))
  have he := hbad.ne
  clear h hbad
  go_enter Try.func21, Try.ntmps21
  go_wp2_with fail
  refine (unhide HN).mono ?_
  rintro e w1 ⟨rfl, hA1, hF1⟩
  clear HN
  go_wp2_with fail
  go_ret
  exact ⟨rfl, hA1, (FrS.of_below hB hB0).trans hF1⟩

set_option maxRecDepth 100000 in
set_option maxHeartbeats 1000000 in
theorem rget_ok (B rb gb vb n k : Nat) (gs : List Slot) (q : List Nat) (tv : Value) (st g u : Int) (w : World) (h : RA B w rb gb vb n gs q tv st) (hk : gs[k]? = some (g, u)) (g0 : 0 ≤ g) (g1 : g % 2 = 1) :
    Calls Try.prog 22 #[.pointer (some ⟨rb, 0, none⟩), .agg #[.int .i64 (k : Int), .int .i64 g]] w fun e w' => e = .returned (.tuple #[.int .i64 u, .int .i64 0]) ∧ Below w.heap.size w w' := by
  obtain ⟨V, hV, v0, v1, vf, hB, hz⟩ := boxed w (k : Int) g 44
  have HN := hide (check_ok B rb gb vb n k gs q tv st g u V (h.below hB) hk g0 g1)
  have HA := hide (h.below hB)
  have HK := hide hk
  have k1 : k < n := (h.slot hk).2.2.2.2
  have k2 : (k : Int) < (n : Int) := by omega
  have k3 : (0 : Int) ≤ (k : Int) := by omega
  clear h hk g0 g1
  go_enter Try.func22, Try.ntmps22
  go_wp2_with fail
  refine (unhide HN).mono ?_
  rintro e w1 ⟨rfl, hB1⟩
  have hA1 := (unhide HA).below hB1
  obtain ⟨t0, t1, -, -, -⟩ := hA1.slot (unhide HK)
  obtain ⟨c0, c1, c2, c3, cf⟩ := hA1.cells
  have x0 : w1.cell? ⟨w.heap.size, 0, none⟩ = some (.int .i64 (k : Int)) := (hB1.cell (p := ⟨w.heap.size, 0, none⟩) (by show w.heap.size < V.heap.size; omega)).trans v0
  clear HN hA1 v0 v1 vf
  go_wp2_with fail
  go_quiet (fail)
  go_wp2_with fail
  go_ret2
  exact ⟨rfl, below_dn (hB.trans (hB1.mono (by omega))) _⟩

set_option maxRecDepth 100000 in
set_option maxHeartbeats 1000000 in
theorem rset_ok (B rb gb vb n k : Nat) (gs : List Slot) (q : List Nat) (tv : Value) (st g u v : Int) (w : World) (h : RA B w rb gb vb n gs q tv st) (hk : gs[k]? = some (g, u)) (g0 : 0 ≤ g) (g1 : g % 2 = 1) (hB0 : B ≤ w.heap.size) :
    Calls Try.prog 23 #[.pointer (some ⟨rb, 0, none⟩), .agg #[.int .i64 (k : Int), .int .i64 g], .int .i64 v] w fun e w' => e = .returned (.int .i64 0) ∧ RA B w' rb gb vb n (gs.set k (g, v)) q tv st ∧ FrS B w w' := by
  obtain ⟨V, hV, v0, v1, vf, hB, hz⟩ := boxed w (k : Int) g 44
  have HN := hide (check_ok B rb gb vb n k gs q tv st g u V (h.below hB) hk g0 g1)
  have HA := hide (h.below hB)
  have HK := hide hk
  have k1 : k < n := (h.slot hk).2.2.2.2
  have k2 : (k : Int) < (n : Int) := by omega
  have k3 : (0 : Int) ≤ (k : Int) := by omega
  have hlo := h.lo.2.2
  clear h hk g0 g1
  go_enter Try.func23, Try.ntmps23
  go_wp2_with fail
  refine (unhide HN).mono ?_
  rintro e w1 ⟨rfl, hB1⟩
  have hA1 := (unhide HA).below hB1
  obtain ⟨t0, t1, -, tf, -⟩ := hA1.slot (unhide HK)
  obtain ⟨c0, c1, c2, c3, cf⟩ := hA1.cells
  have x0 : w1.cell? ⟨w.heap.size, 0, none⟩ = some (.int .i64 (k : Int)) := (hB1.cell (p := ⟨w.heap.size, 0, none⟩) (by show w.heap.size < V.heap.size; omega)).trans v0
  have HA1 := hide hA1
  have tk := tf k
  clear HN hA1 v0 v1 vf
  go_wp2_with fail
  go_region
  all_goals go_wp2_with fail
  all_goals go_ret
  all_goals exact ⟨rfl, ((unhide HA1).setVal (unhide HK) v).drew, (((FrS.of_below hB hB0).trans (.of_below hB1 (by omega))).set (p := ⟨vb, k, none⟩) hlo (unhide HA1).hv (by decide) _).drew⟩

theorem info3' : (Try.prog.info? 3).map (fun i => (i.zero, i.size, i.bytes)) = some (some (.int .i64 0), 1, 8) := by kernel_rfl
/-- A slot behind the free ones. -/
theorem RA.push {B : Nat} {W : World} {rb gb vb n : Nat} {gs : List Slot} {q : List Nat} {tv : Value} {st : Int} (h : RA B W rb gb vb n gs q tv st) (hq : q.length < n) {a k : Nat} (ha : W.heap[a]? = some (.cells #[.int .i64 (k : Int)] 3)) (hB : B ≤ W.heap.size) :
    ∃ tv' W', (Builtin.append_ #[53, 53] 53 #[tv, .slice (some ⟨a, 0, none⟩) 1 1]).run Try.prog W = .ok tv' W' ∧ W'.cell? ⟨rb, 2, none⟩ = some tv ∧ W'.frozen? ⟨rb, 2, none⟩ = false ∧ (∃ x y z, tv' = .slice x y z) ∧
      RA B (W'.setCell ⟨rb, 2, none⟩ tv') rb gb vb n gs (q ++ [k]) tv' st ∧ FrS B W (W'.setCell ⟨rb, 2, none⟩ tv') := by
  obtain ⟨i0, hi, hz0, hz1, hz2⟩ := info_parts info3'
  have n64 := h.n64
  obtain ⟨tv', W', r, R, gr, at'⟩ := h.ht.append 53 i0 (.int .i64 0) 8 Try.underlying53 hi hz0 hz1 hz2 rfl (by decide) ⟨a, 0, none⟩ 1 1 [.int .i64 (k : Int)] rfl (by intro j u hj; rw [addr_add, Nat.zero_add, cell_of ha]; simpa using hj) (by intro u hu; simp at hu; subst hu; rfl) (by unfold maxLen; omega) (by omega) hB
  have eb := (gr.block rb h.lt.1 (h.ht.ne h.hb (by simp))).trans h.hb
  have eg := (gr.block gb h.lt.2.1 (h.ht.ne h.hg (by simp))).trans h.hg
  have ev := (gr.block vb h.lt.2.2 (h.ht.ne h.hv (by simp))).trans h.hv
  obtain ⟨a1, a2⟩ := h.apart
  obtain ⟨x, y, e, -⟩ := R.form
  refine ⟨tv', W', r, by rw [cell_of eb]; rfl, frozen_of eb 2, ⟨_, _, _, e⟩, ⟨heap_set eb 2 _, (Below.heap_setCell _ _ _ _ (Ne.symm a1)).trans eg, (Below.heap_setCell _ _ _ _ (Ne.symm a2)).trans ev, ?_, h.len, h.ne, h.lo, h.n64, by simp; omega⟩, ((FrS.refl B W).grown h.ht gr (by decide) hB).set (p := ⟨rb, 2, none⟩) h.lo.1 eb (by decide) _⟩
  have R2 : Rw B W' 3 1 tv' (q ++ [k]).length (nums (q ++ [k])) := by simpa [nums] using R
  exact R2.keep (fun j cur _ hc => Below.heap_setCell _ _ _ _ (by rintro rfl; rw [eb] at hc; simp at hc))

set_option maxRecDepth 100000 in
set_option maxHeartbeats 1000000 in
theorem rfree_ok (B rb gb vb n k : Nat) (gs : List Slot) (q : List Nat) (tv : Value) (st g u : Int) (w : World) (h : RA B w rb gb vb n gs q tv st) (hk : gs[k]? = some (g, u)) (g0 : 0 ≤ g) (g1 : g % 2 = 1) (g2 : g ≤ 1000000) (hq : q.length < n) (hB0 : B ≤ w.heap.size) :
    Calls Try.prog 21 #[.pointer (some ⟨rb, 0, none⟩), .agg #[.int .i64 (k : Int), .int .i64 g]] w fun e w' => e = .returned (.int .i64 0) ∧ (∃ tv', RA B w' rb gb vb n (gs.set k (g + 1, 0)) (q ++ [k]) tv' st) ∧ FrS B w w' := by
  obtain ⟨V, hV, v0, v1, vf, hB, hz⟩ := boxed w (k : Int) g 44
  have HN := hide (check_ok B rb gb vb n k gs q tv st g u V (h.below hB) hk g0 g1)
  have HA := hide (h.below hB)
  have HK := hide hk
  have k1 : k < n := (h.slot hk).2.2.2.2
  have k2 : (k : Int) < (n : Int) := by omega
  have k3 : (0 : Int) ≤ (k : Int) := by omega
  have hlo := h.lo
  have hne := h.ne
  have hlt := h.lt
  have ew : IntKind.i64.wrap (g + 1) = g + 1 := by rw [IntKind.wrap_i64]; omega
  clear h hk g1
  go_enter Try.func21, Try.ntmps21
  go_wp2_with fail
  refine (unhide HN).mono ?_
  rintro e w1 ⟨rfl, hB1⟩
  have hA1 := (unhide HA).below hB1
  obtain ⟨t0, t1, tf, -, -⟩ := hA1.slot (unhide HK)
  obtain ⟨c0, c1, c2, c3, cf⟩ := hA1.cells
  have x0 : w1.cell? ⟨w.heap.size, 0, none⟩ = some (.int .i64 (k : Int)) := (hB1.cell (p := ⟨w.heap.size, 0, none⟩) (by show w.heap.size < V.heap.size; omega)).trans v0
  have hF1 := (FrS.of_below hB hB0).trans (.of_below hB1 (by omega))
  have hs1 : w.heap.size < w1.heap.size := by have := hB1.size; omega
  have hA2 := (hA1.setGen (unhide HK) (g + 1)).drew
  have hF2 := (hF1.set (p := ⟨gb, k, none⟩) hlo.2.1 hA1.hg (by decide) (.int .i64 (g + 1))).drew
  have x2 : (w1.setCell ⟨gb, k, none⟩ (.int .i64 (g + 1))).drew.cell? ⟨w.heap.size, 0, none⟩ = some (.int .i64 (k : Int)) := (World.cell?_setCell_other _ _ _ _ (by simp only [ne_eq, Addr.mk.injEq, not_and]; omega)).trans x0
  have hs2 : w.heap.size < (w1.setCell ⟨gb, k, none⟩ (.int .i64 (g + 1))).drew.heap.size := by simp [World.setCell]; omega
  have H2 := hide (And.intro hA2 (And.intro hF2 (And.intro x2 hs2)))
  have tk := tf k
  clear HN hA1 hA2 hF1 hF2 x2 hs2 v0 v1 vf
  go_wp2_with fail
  go_region
  go_wp2_with fail
  obtain ⟨hA2, hF2, x2, hs2⟩ := unhide H2
  clear H2 t0 t1 tf c0 c1 c2 c3 cf x0 tk hs1
  generalize (w1.setCell ⟨gb, k, none⟩ (.int .i64 (g + 1))).drew = W2 at *
  have hk2 := get_set (unhide HK) ((g + 1 : Int), u)
  obtain ⟨t0, t1, -, tf, -⟩ := hA2.slot hk2
  obtain ⟨c0, c1, c2, c3, cf⟩ := hA2.cells
  have hA3 := (hA2.setVal hk2 0).drew
  rw [List.set_set] at hA3
  have hF3 := (hF2.set (p := ⟨vb, k, none⟩) hlo.2.2 hA2.hv (by decide) (.int .i64 0)).drew
  have x3 : (W2.setCell ⟨vb, k, none⟩ (.int .i64 0)).drew.cell? ⟨w.heap.size, 0, none⟩ = some (.int .i64 (k : Int)) := (World.cell?_setCell_other _ _ _ _ (by simp only [ne_eq, Addr.mk.injEq, not_and]; omega)).trans x2
  have hs3 : w.heap.size < (W2.setCell ⟨vb, k, none⟩ (.int .i64 0)).drew.heap.size := by simp [World.setCell]; omega
  have H3 := hide (And.intro hA3 (And.intro hF3 (And.intro x3 hs3)))
  have tk := tf k
  clear hA2 hF2 hA3 hF3 x3 hs3 hs2 hk2
  go_region
  go_wp2_with fail
  obtain ⟨hA3, hF3, x3, hs3⟩ := unhide H3
  clear H3 t0 t1 tf c0 c1 c2 c3 cf x2 tk
  generalize (W2.setCell ⟨vb, k, none⟩ (.int .i64 0)).drew = W3 at *
  obtain ⟨c0, c1, c2, c3, cf⟩ := hA3.cells
  have hBa := (Below.refl _ W3).alloc (Nat.le_refl _) (.cells #[.int .i64 (k : Int)] 3)
  have hA4 := (hA3.below hBa).drew
  have d2 : (W3.alloc (.cells #[.int .i64 (k : Int)] 3)).cell? ⟨rb, 2, none⟩ = some tv := hA4.cells.2.2.1
  have x4 : (W3.alloc (.cells #[.int .i64 (k : Int)] 3)).cell? ⟨w.heap.size, 0, none⟩ = some (.int .i64 (k : Int)) := (hBa.cell (p := ⟨w.heap.size, 0, none⟩) hs3).trans x3
  have hF4 := (hF3.trans (.of_below hBa (by omega))).drew
  obtain ⟨tv', W5, r5, e5, f5, ⟨ya, yb, yc, rfl⟩, hA5, hF5⟩ := hA4.push hq (a := W3.heap.size) (k := k) (putAll (w := W3) (.cells #[.int .i64 (k : Int)] 3) W3.heap.size rfl) (by show B ≤ (W3.alloc _).heap.size; simp; omega)
  have H5 := hide (And.intro hA5 (hF4.trans hF5))
  clear hA3 hF3 hA4 hF4 hA5 hF5 hBa c0 c1 c3
  go_region_law (refine step_append_eq (by rfl) _ _ 53 (by rfl) 53 (by rfl) _ _ (by rfl) (by rfl) _ _ r5 ?_)
  all_goals go_wp2_with fail
  all_goals go_ret
  all_goals exact ⟨rfl, ⟨_, (unhide H5).1.of fun _ _ _ _ _ => rfl⟩, (unhide H5).2⟩
end Go.Proofs.Ytfhphamjalpjpaa
