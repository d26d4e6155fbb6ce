/-
  The contracts of the document's Take, New and Live, and of the law's in.
-/
import Derived.Test.YtfhphamjalpjpaaRefB
namespace Go.Proofs.Ytfhphamjalpjpaa
open Go.RowKit
attribute [local go_sem ↓] Go.wp_at_zero Go.wp_at_succ

theorem RA.of2 {B : Nat} {W W' : World} {rb gb vb n : Nat} {gs : List Slot} {q : List Nat} {tv : Value} {st : Int} (h : RA B W rb gb vb n gs q tv st) (e1 : W'.heap[rb]? = W.heap[rb]?) (e2 : W'.heap[gb]? = W.heap[gb]?) (e3 : W'.heap[vb]? = W.heap[vb]?) (hk : ∀ (k : Nat) (cur : Array Value), W.heap[k]? = some (Obj.cells cur 3 (0, 0)) → W'.heap[k]? = W.heap[k]?) : RA B W' rb gb vb n gs q tv st :=
  ⟨e1.trans h.hb, e2.trans h.hg, e3.trans h.hv, h.ht.keep (fun k cur _ hc => hk k cur hc), h.len, h.ne, h.lo, h.n64, h.ql⟩

set_option maxHeartbeats 400000 in
theorem in_any (s x : Int) (w : World) : Calls Try.prog 20 #[.agg #[.int .i64 s, .int .i64 x]] w fun e w' => e = .returned (.agg #[.int .i64 s, .int .i64 x]) ∧ Below w.heap.size w w' := by
  go_enter Try.func20, Try.ntmps20
  go_wp2
  refine bodyPost_ret (v := .agg #[.int .i64 s, .int .i64 x]) (by simp [results, Try.results20, go_sem]) rfl ?_
  exact ⟨rfl, ((Below.refl _ _).alloc (Nat.le_refl _) _).alloc (by simp) _⟩

set_option maxRecDepth 100000 in
set_option maxHeartbeats 1000000 in
theorem rtake_no (B rb gb vb n : Nat) (gs : List Slot) (tv : Value) (st v : Int) (w : World) (h : RA B w rb gb vb n gs [] tv st) :
    Calls Try.prog 19 #[.pointer (some ⟨rb, 0, none⟩), .int .i64 v] w fun e w' => e = .returned (.tuple #[.agg #[.int .i64 0, .int .i64 0], .int .i64 13]) ∧ Below w.heap.size w w' := by
  obtain ⟨V, hV, v0, v1, vf, hB, hz⟩ := boxed w 0 0 44
  obtain ⟨ya, yc, rfl, -⟩ := h.ht.form
  obtain ⟨h0, h1, h2, h3, hf⟩ := (h.below hB).cells
  simp only [List.length_nil] at h2
  clear h
  go_enter Try.func19, Try.ntmps19
  go_wp2_with fail
  refine bodyPost_ret (v := .tuple #[.agg #[.int .i64 0, .int .i64 0], .int .i64 13]) (by simp [results, Try.results19, go_sem, v0, v1]) rfl ?_
  exact ⟨rfl, (hB.setCell (p := ⟨w.heap.size, 0, none⟩) (Nat.le_refl _) _).setCell (p := ⟨w.heap.size, 1, none⟩) (Nat.le_refl _) _⟩

set_option maxRecDepth 100000 in
set_option maxHeartbeats 1000000 in
theorem rtake_yes (B rb gb vb n k : Nat) (gs : List Slot) (q : List Nat) (tv : Value) (st v g u : Int) (w : World) (h : RA B w rb gb vb n gs (k :: q) tv st) (hk : gs[k]? = some (g, u)) (g0 : 0 ≤ g) (gm : g ≤ 1000000) (hB0 : B ≤ w.heap.size) :
    Calls Try.prog 19 #[.pointer (some ⟨rb, 0, none⟩), .int .i64 v] w fun e w' => e = .returned (.tuple #[.agg #[.int .i64 (k : Int), .int .i64 (g + 1)], .int .i64 0]) ∧ (∃ tv', RA B w' rb gb vb n (gs.set k (g + 1, v)) q tv' st) ∧ FrS B w w' := by
  obtain ⟨V, hV, v0, v1, vf, hB, hz⟩ := boxed w 0 0 44
  have hA := h.below hB
  obtain ⟨gt, ot, ct, rfl, hcc, hcm⟩ := hA.ht.open_ (by simp)
  have z0 : V.cell? ⟨gt, ot, none⟩ = some (.int .i64 (k : Int)) := hA.ht.cell (j := 0) rfl
  have hT := hA.ht
  simp only [List.length_cons] at hT
  have hT2 := Rw.tail (hd := [.int .i64 (k : Int)]) (xs := nums q) hT rfl
  obtain ⟨h0, h1, h2, h3, hf⟩ := hA.cells
  obtain ⟨t0, t1, gf, vf2, k1⟩ := hA.slot hk
  have hlt := h.lt
  have hlo := h.lo
  obtain ⟨a1, a2⟩ := h.apart
  have hne := h.ne
  have ql := h.ql
  have n64 := h.n64
  simp only [List.length_cons] at h2 hcc ql
  have k2 : (k : Int) < (n : Int) := by omega
  have k3 : (0 : Int) ≤ (k : Int) := by omega
  have f2 := hf 2
  have gk := gf k
  have vk := vf2 k
  have w0 := vf 0
  have wv1 := vf 1
  have HK := hide hk
  have HA := hide hA
  have HB := hide hB
  have key : ∀ tv', Rw B V 3 1 tv' q.length (nums q) → RA B ((((((V.setCell ⟨rb, 2, none⟩ tv').setCell ⟨gb, k, none⟩ (.int .i64 (g + 1))).setCell ⟨vb, k, none⟩ (.int .i64 v)).setCell ⟨w.heap.size, 0, none⟩ (.int .i64 (k : Int))).setCell ⟨w.heap.size, 1, none⟩ (.int .i64 (g + 1)))) rb gb vb n (gs.set k (g + 1, v)) q tv' st ∧
      FrS B w ((((((V.setCell ⟨rb, 2, none⟩ tv').setCell ⟨gb, k, none⟩ (.int .i64 (g + 1))).setCell ⟨vb, k, none⟩ (.int .i64 v)).setCell ⟨w.heap.size, 0, none⟩ (.int .i64 (k : Int))).setCell ⟨w.heap.size, 1, none⟩ (.int .i64 (g + 1)))) := by
    intro tv' hr
    have b1 := hA.setTurn hr (by omega)
    have b2 := b1.setGen hk (g + 1)
    have b3 := b2.setVal (get_set hk _) v
    rw [List.set_set] at b3
    have x1 := (FrS.of_below hB hB0).set (p := ⟨rb, 2, none⟩) hlo.1 hA.hb (by decide) tv'
    have x2 := x1.set (p := ⟨gb, k, none⟩) hlo.2.1 b1.hg (by decide) (.int .i64 (g + 1))
    have x3 := x2.set (p := ⟨vb, k, none⟩) hlo.2.2 b2.hv (by decide) (.int .i64 v)
    have eb : ((((V.setCell ⟨rb, 2, none⟩ tv').setCell ⟨gb, k, none⟩ (.int .i64 (g + 1))).setCell ⟨vb, k, none⟩ (.int .i64 v))).heap[w.heap.size]? = some (.cells #[.int .i64 0, .int .i64 0] 44) := by
      rw [Below.heap_setCell _ _ _ _ (by show w.heap.size ≠ vb; omega), Below.heap_setCell _ _ _ _ (by show w.heap.size ≠ gb; omega), Below.heap_setCell _ _ _ _ (by show w.heap.size ≠ rb; omega), ← hV]
      exact putAll _ _ rfl
    have x4 := x3.set (p := ⟨w.heap.size, 0, none⟩) hB0 eb (by decide) (.int .i64 (k : Int))
    have eb2 := heap_set eb 0 (.int .i64 (k : Int))
    have x5 := x4.set (p := ⟨w.heap.size, 1, none⟩) hB0 eb2 (by decide) (.int .i64 (g + 1))
    have st2 : ∀ j, j ≠ w.heap.size → ((((((V.setCell ⟨rb, 2, none⟩ tv').setCell ⟨gb, k, none⟩ (.int .i64 (g + 1))).setCell ⟨vb, k, none⟩ (.int .i64 v)).setCell ⟨w.heap.size, 0, none⟩ (.int .i64 (k : Int))).setCell ⟨w.heap.size, 1, none⟩ (.int .i64 (g + 1)))).heap[j]? = ((((V.setCell ⟨rb, 2, none⟩ tv').setCell ⟨gb, k, none⟩ (.int .i64 (g + 1))).setCell ⟨vb, k, none⟩ (.int .i64 v))).heap[j]? :=
      fun j hj => by rw [Below.heap_setCell _ _ _ _ hj, Below.heap_setCell _ _ _ _ hj]
    exact ⟨b3.of2 (st2 rb (by omega)) (st2 gb (by omega)) (st2 vb (by omega)) (fun j cur hc => st2 j (by rintro rfl; rw [eb] at hc; simp at hc)), x5⟩
  have HKEY := hide key
  clear key h hA hB hk
  generalize hql : q.length = m at *
  have HQL := hide hql
  clear hql
  have e0 : ¬ (m : Int) + 1 = 0 := by omega
  generalize hM : m + 1 = M at *
  have j1 : (1 : Int) ≤ (M : Int) := by omega
  have j2 : (M : Int) ≤ (ct : Int) := by omega
  have j3 : (0 : Int) < (M : Int) := by omega
  have e1 : ¬ (M : Int) = 0 := by omega
  have e2 : ¬ M = 0 := by omega
  have eM : m = M - 1 := by omega
  rw [eM] at hT2
  by_cases hc1 : ct = 1
  · rw [if_pos hc1] at hT2
    subst hc1
    obtain rfl : M = 1 := by omega
    simp only [Nat.sub_self] at hT2
    have hx := unhide HKEY _ (by rw [eM]; exact hT2)
    have HX := hide hx
    clear hx hT hT2 HKEY hM
    go_enter Try.func19, Try.ntmps19
    go_wp2_with fail
    refine bodyPost_ret (v := .tuple #[.agg #[.int .i64 (k : Int), .int .i64 (g + 1)], .int .i64 0]) (by simp [results, Try.results19, go_sem, v0, v1]) rfl ?_
    exact ⟨rfl, ⟨_, (unhide HX).1⟩, (unhide HX).2⟩
  · rw [if_neg hc1] at hT2
    have hx := unhide HKEY _ (by rw [eM]; exact hT2)
    have HX := hide hx
    clear hx hT hT2 HKEY hM
    go_enter Try.func19, Try.ntmps19
    go_wp2_with fail
    refine bodyPost_ret (v := .tuple #[.agg #[.int .i64 (k : Int), .int .i64 (g + 1)], .int .i64 0]) (by simp [results, Try.results19, go_sem, v0, v1]) rfl ?_
    exact ⟨rfl, ⟨_, (unhide HX).1⟩, (unhide HX).2⟩
end Go.Proofs.Ytfhphamjalpjpaa
