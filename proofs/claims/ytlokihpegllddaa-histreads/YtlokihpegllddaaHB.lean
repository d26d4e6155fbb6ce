/-
  The contracts of strings.Clone and of ownCall.
-/
import Derived.Test.YtlokihpegllddaaHA
import Derived.Test.YtlokihpegllddaaShelfA
import Derived.Deep.RegionWith
namespace Go.Proofs.Ytlokihpegllddaa.Cl
open Go.RowKit Go.Shelf
attribute [local go_sem ↓] Go.wp_at_zero Go.wp_at_succ

theorem be_keep {u v : World} {k : Nat} {o : Obj} (g : Below u.heap.size u v) (h : u.heap[k]? = some o) : v.heap[k]? = some o := (g.block k (lt_of_heap h)).trans h
/-- Two cells that are stored as they are. -/
theorem storeAs {W : World} {b i j : Nat} {t : TypeId} {cs : Array Value} (h : W.heap[b]? = some (.cells cs t)) {u v : Value} (hu : cs[i]? = some u) (hv : cs[j]? = some v) :
    ∃ X1 X2 : World, (W.setCell ⟨b, i, none⟩ u = X1 ∧ X1.setCell ⟨b, j, none⟩ v = X2) ∧ (W.cell? ⟨b, i, none⟩ = some u ∧ X1.cell? ⟨b, j, none⟩ = some v) ∧ (W.frozen? ⟨b, i, none⟩ = false ∧ X1.frozen? ⟨b, j, none⟩ = false) ∧ X2.heap[b]? = some (.cells cs t) ∧ Gr b W X2 := by
  have k1 : (W.setCell ⟨b, i, none⟩ u).heap[b]? = some (.cells cs t) := by
    rw [heap_set h]
    congr 2
    apply Array.ext_getElem?
    intro k
    rw [Array.getElem?_setIfInBounds]
    split
    · subst_vars
      have := (Array.getElem?_eq_some_iff.1 hu).1
      simpa [this] using hu.symm
    · rfl
  have k2 : ((W.setCell ⟨b, i, none⟩ u).setCell ⟨b, j, none⟩ v).heap[b]? = some (.cells cs t) := by
    rw [heap_set k1]
    congr 2
    apply Array.ext_getElem?
    intro k
    rw [Array.getElem?_setIfInBounds]
    split
    · subst_vars
      have := (Array.getElem?_eq_some_iff.1 hv).1
      simpa [this] using hv.symm
    · rfl
  exact ⟨_, _, ⟨rfl, rfl⟩, ⟨by rw [cell_of h]; exact hu, by rw [cell_of k1]; exact hv⟩, ⟨frozen_of h _, frozen_of k1 _⟩, k2, (Gr.set b i W u).trans (Gr.set b j _ v)⟩
theorem bs_size (l : List UInt8) : (bs l).size = l.length := by simp [ByteArray.size]
theorem liclone_any (l : List UInt8) (w : World) (hs : l.length ≤ 140737488355328) :
    Calls Try.prog 33 #[S l] w fun e w' => e = .returned (S l) ∧ Below w.heap.size w w' := Any.stringslite_Clone Try.laysM316 (bs l) w (by rw [bs_size]; omega)
set_option maxHeartbeats 1000000 in
theorem clone_any (l : List UInt8) (w : World) (hs : l.length ≤ 140737488355328) :
    Calls Try.prog 28 #[S l] w fun e w' => e = .returned (S l) ∧ Below w.heap.size w w' := by
  go_enter Try.func28, Try.ntmps28
  go_wp2_with (go_at_call 33; refine (liclone_any _ _ hs).mono ?_; rintro e w' ⟨rfl, hB⟩)
  go_ret
  exact ⟨rfl, hB⟩
set_option maxRecDepth 100000 in
set_option maxHeartbeats 2000000 in
theorem ownC_any (c : Cc) (d : Sl) (w : World) (hp : c.path.length ≤ 140737488355328) (hq : c.dst.length ≤ 140737488355328) (hl : c.data.length ≤ 140737488355328) (q : Dq w w.heap.size d c.data) :
    Calls Try.prog 19 #[.agg (c.cs d)] w fun e w' => ∃ d' : Sl, e = .returned (.agg (c.cs d')) ∧ Dq w' 0 d' c.data ∧ Below w.heap.size w w' := by
  obtain ⟨V, hV, hs, g0, g1, hB⟩ := alloc2 w (.cells (c.cs d) 28) (.cells Z9 28)
  obtain ⟨b0, b1, b2, b3, b4, b5, b6, b7, b8⟩ := cells9 g0
  have HP := hide (fun W => clone_any c.path W hp)
  have HQ := hide (fun W => clone_any c.dst W hq)
  have HD := hide q
  have HL := hide hl
  have HV := hide (⟨hB, hs, g0, g1⟩ : _ ∧ _ ∧ _ ∧ _)
  clear hB hs g0 g1 q hl hp hq
  go_enter Try.func19, Try.ntmps19
  go_wp2_with fail
  go_region_with (first
    | (go_at_call_of 28 (S c.path); refine (unhide HP _).mono ?_; rintro e W1 ⟨rfl, be1⟩; have H1 := hide (And.intro be1 (And.intro (be_keep be1 (unhide HV).2.2.1) (be_keep be1 (unhide HV).2.2.2))); obtain ⟨b0, b1, b2, b3, b4, b5, b6, b7, b8⟩ := cells9 (unhide H1).2.1; clear be1)
    | (go_at_call_of 28 (S c.dst); refine (unhide HQ _).mono ?_; rintro e W2 ⟨rfl, be2⟩; have H2 := hide (And.intro be2 (And.intro (be_keep be2 (unhide H1).2.1) (be_keep be2 (unhide H1).2.2))); obtain ⟨b0, b1, b2, b3, b4, b5, b6, b7, b8⟩ := cells9 (unhide H2).2.1; have f1 := frozen_of (unhide H2).2.1 1; have f2 := frozen_of (unhide H2).2.1 2; clear be2))
  all_goals
    obtain ⟨X1, X2, ⟨e1, e2⟩, -, -, gX, grX⟩ := storeAs (i := 1) (j := 2) (u := S c.path) (v := S c.dst) (unhide H2).2.1 rfl rfl
    rw [e1, e2]
    clear e1 e2
    have hBV := (unhide HV).1
    have hsV := (unhide HV).2.1
    have hB1 : Below w.heap.size w W1 := (below_drew hBV).trans ((unhide H1).1.mono (show w.heap.size ≤ V.heap.size by omega))
    have hB2 : Below w.heap.size w W2 := hB1.trans ((unhide H2).1.mono hB1.size)
    have hBX : Below w.heap.size w X2 := hB2.trans (grX.below (Nat.le_refl _) hB2.size)
    have k1 : X2.heap[w.heap.size + 1]? = some (.cells Z9 28) := grX.keep (unhide H2).2.2 (by omega)
    have qX := (unhide HD).below hBX (Nat.le_refl _)
    obtain ⟨v', W3, hrun, hw3, hK3⟩ := (Bw.nil X2 X2.heap.size).app (Nat.le_refl _) 26 d.a c.data d.n d.c qX.1 qX.by' (by simpa using unhide HL)
    have k2 := be_keep hK3.be gX
    have k3 := be_keep hK3.be k1
    obtain ⟨d', rfl, qd⟩ := Dq.of_bw (h := 0) hw3
    obtain ⟨c0, c1, c2, c3, c4, c5, c6, c7, c8⟩ := cells9 gX
    have c9 : W3.cell? ⟨w.heap.size, 8, none⟩ = some d.v := by rw [cell_of k2]; rfl
    have c10 := frozen_of k2 8
    obtain ⟨Y, hY⟩ : ∃ Y, W3.setCell ⟨w.heap.size, 8, none⟩ d'.v = Y := ⟨_, rfl⟩
    have k4 : Y.heap[w.heap.size]? = some (.cells (c.cs d') 28) := by rw [← hY, heap_set k2]; rfl
    have grY : Gr w.heap.size W3 Y := hY ▸ Gr.set _ 8 W3 d'.v
    have k5 := grY.keep k3 (by omega)
    obtain ⟨o0, o1, o2, o3, o4, o5, o6, o7, o8⟩ := cells9 k4
    obtain ⟨Y1, Y2, Y3, Y4, Y5, Y6, Y7, Y8, Y9, ⟨p1, p2, p3, p4, p5, p6, p7, p8, p9⟩, ⟨q0, q1, q2, q3, q4, q5, q6, q7, q8⟩, ⟨r0, r1, r2, r3, r4, r5, r6, r7, r8⟩, k6, grZ⟩ := store9 k5 (I c.op) (S c.path) (S c.dst) (I c.fd) (I c.fl) (I c.mo) (I c.n) (I c.m) d'.v
    obtain ⟨z0, z1, z2, z3, z4, z5, z6, z7, z8⟩ := cells9 k6
    have hB3 : Below w.heap.size w W3 := hBX.trans (hK3.be.mono hBX.size)
    have hBY : Below w.heap.size w Y := hB3.trans (grY.below (Nat.le_refl _) hB3.size)
    have HE : Hid (Dq Y9 0 d' c.data ∧ Below w.heap.size w Y9) := hide ⟨by
      have l5 : ∀ (b : Nat) (cs : Array Value) (t : TypeId) (f : Nat × Nat), W3.heap[b]? = some (.cells cs t f) → (t = 5 ∨ t = 9) → Y9.heap[b]? = some (.cells cs t f) := fun b cs t f e ht => by
        have n0 : b ≠ w.heap.size := by
          rintro rfl
          rw [k2] at e
          simp at e
          rcases ht with h | h
          · exact absurd (e.2.1.trans h) (by decide)
          · exact absurd (e.2.1.trans h) (by decide)
        have n1 : b ≠ w.heap.size + 1 := by
          rintro rfl
          rw [k3] at e
          simp at e
          rcases ht with h | h
          · exact absurd (e.2.1.trans h) (by decide)
          · exact absurd (e.2.1.trans h) (by decide)
        exact grZ.keep (grY.keep e n0) n1
      exact qd.kt ⟨((grY.below (Nat.le_refl _) hB3.size).trans (grZ.below (by omega) hBY.size)).mono (Nat.zero_le _), l5⟩, hBY.trans (grZ.below (by omega) hBY.size)⟩
    clear k6 grZ k5 grY k4 hw3 hK3 k2 k3 qX k1 hBX hB1 hB2 grX gX hB3 hBY qd HV HP HQ HD HL H1 H2 hBV hsV f1 f2 hV
    go_wp2_with (at_builtin; refine wpList_app rfl _ _ 26 26 rfl 26 rfl _ _ (by rfl) (by rfl) _ _ hrun ?_; clear hrun)
    exact bodyPost_ret (v := .agg (c.cs d')) (by simp [results, Try.results19, go_sem, z0, z1, z2, z3, z4, z5, z6, z7, z8]) rfl ⟨d', rfl, unhide HE⟩
end Go.Proofs.Ytlokihpegllddaa.Cl
