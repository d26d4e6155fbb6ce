/-
  HistAlike: the law's walk.
-/
import Derived.Test.YtlokihpegllddaaHN
import Derived.Test.YtlokihpegllddaaHV
import Derived.Test.YtlokihpegllddaaHJ
import Derived.Test.YtlokihpegllddaaHIn
import Derived.Deep.CutRange
import Derived.Deep.CutBlock
import Derived.Laws.Entries
namespace Go.Proofs.Ytlokihpegllddaa.Cl
open Go.RowKit Go.Shelf
attribute [local go_sem ↓] Go.wp_at_zero Go.wp_at_succ
attribute [local go_sem ↓] ld33_eq
attribute [local go_sem] ld33_ok

theorem xor_ne (a : Int) : ¬ bits .xor .i64 a 1 = a := by
  intro h
  have h1 : BitVec.ofInt 64 (bits .xor .i64 a 1) = BitVec.ofInt 64 a ^^^ 1#64 := by
    show BitVec.ofInt 64 (IntKind.i64.wrap ((BitVec.ofInt 64 a ^^^ BitVec.ofInt 64 1).toNat : Int)) = _
    rw [IntKind.wrap_i64]
    apply BitVec.eq_of_toNat_eq
    have e1 : BitVec.ofInt 64 1 = 1#64 := by decide
    rw [e1]
    generalize BitVec.ofInt 64 a ^^^ 1#64 = v
    have hv := v.isLt
    rw [BitVec.toNat_ofInt]
    omega
  rw [h] at h1
  have h2 : (BitVec.ofInt 64 a).getLsbD 0 = (BitVec.ofInt 64 a ^^^ 1#64).getLsbD 0 := by rw [← h1]
  simp at h2
theorem sameR_ne {a b : Rr} (h : a.why ≠ b.why ∨ a.n ≠ b.n ∨ a.data ≠ b.data ∨ a.names ≠ b.names ∨ a.size ≠ b.size ∨ a.mode ≠ b.mode) : sameR a b = false := by
  cases hs : sameR a b with
  | false => rfl
  | true =>
    simp only [sameR, Bool.and_eq_true, beq_iff_eq, decide_eq_true_eq] at hs
    obtain ⟨⟨⟨⟨⟨⟨⟨⟨⟨⟨h1, h2⟩, h3⟩, h4⟩, h5⟩, h6⟩, h7⟩, h8⟩, h9⟩, h10⟩, h11⟩ := hs
    rcases h with h | h | h | h | h | h
    · exact absurd h1 h
    · exact absurd h2 h
    · exact absurd h10 h
    · exact absurd h11 h
    · exact absurd h9 h
    · exact absurd h5 h
theorem tk_one (l : List (List UInt8)) : ∀ u ∈ l.map S, u.oneCell' = true := fun u hu => by
  obtain ⟨x, -, rfl⟩ := List.mem_map.1 hu
  rfl
/-- Texts behind texts, wherever they lie. -/
theorem Tw.app {W : World} {h : Nat} {v : Value} {l : List (List UInt8)} (q : Tw W h v l) (hb : h ≤ W.heap.size) (a : Option Addr) (n c : Nat) (m : List (List UInt8)) (p : Nq W W.heap.size ⟨a, n, c⟩ m) (hl : (l.length + m.length) * 16 ≤ 140737488355328) :
    ∃ v' W', (Builtin.append_ #[29, 29] 29 #[v, .slice a n c]).run Try.prog W = .ok v' W' ∧ Tw W' h v' (l ++ m) ∧ Below h W W' ∧ ∀ (k : Nat) (cs : Array Value) (t : TypeId) (f : Nat × Nat), W.heap[k]? = some (.cells cs t f) → t ≠ 9 → W'.heap[k]? = some (.cells cs t f) := by
  obtain ⟨i, hi, hi2⟩ : ∃ i, Try.prog.info? 9 = some i ∧ (i.zero, i.size, i.bytes) = (some (.string ⟨#[]⟩), 1, 16) := Option.map_eq_some_iff.1 info9
  simp only [Prod.mk.injEq] at hi2
  obtain ⟨hz0, hz1, hz2⟩ := hi2
  have ht := Try.underlying29
  have hmax : (281474976710656 : Nat) ≤ maxLen := by decide
  have hn : n = m.length := p.1
  subst hn
  cases m with
  | nil =>
    refine ⟨v, W, ?_, by simpa using q, Below.refl _ _, fun _ _ _ _ e _ => e⟩
    obtain ⟨-, ⟨rfl, -⟩ | ⟨g, cap, cur, rfl, h2, h3, h4, h5, h6, h7⟩⟩ := q
    · cases a <;> simp [Builtin.append_, run_underlying ht, sizeOf, typeInfo, hi, Builtin.lenOf, Builtin.firstCells, loadCells, loadCellsFrom]
    · cases a <;> simp [Builtin.append_, run_underlying ht, sizeOf, typeInfo, hi, Builtin.lenOf, Builtin.firstCells, loadCells, loadCellsFrom, h4, storeCells]
  | cons x m =>
    obtain ⟨sb, so, e1, hsb, -⟩ := p.2.2.2 0 x rfl
    simp only at e1
    subst e1
    have hnews : ∀ j u, ((x :: m).map S)[j]? = some u → W.cell? ((⟨sb, so, none⟩ : Addr).add j) = some u := by
      intro j u hj
      rw [List.getElem?_map] at hj
      obtain ⟨y, hy, rfl⟩ := Option.map_eq_some_iff.1 hj
      obtain ⟨b', o', e1, -, -, h3⟩ := p.2.2.2 j y hy
      simp only [Option.some.injEq, Addr.mk.injEq, and_true] at e1
      obtain ⟨rfl, rfl⟩ := e1
      rw [addAt]
      exact h3
    obtain ⟨v', W', r1, r2, r3, -, r5⟩ := run_append_own_at (P := Try.prog) (w := W) h 29 29 9 i (.string ⟨#[]⟩) 1 16 ht hi hz0 hz1 hz2 rfl (by decide) v l.length _ q ⟨sb, so, none⟩ (x :: m).length c ((x :: m).map S) (by simp) hnews (tk_one _) (by omega) (by omega) hb
    refine ⟨v', W', r1, ?_, ⟨r3.os, r3.tape, r3.output, r3.size, fun k hk => r3.block k (by omega) (fun e => ?_)⟩, fun k cs t f e ht => ?_⟩
    · show W'.ownsRow h 9 1 v' (l ++ x :: m).length ((l ++ x :: m).map S)
      rw [List.map_append, List.length_append]
      exact r2
    · have := (q.own e.symm).1
      omega
    · refine (r3.block k (lt_of_heap e) (fun e2 => ?_)).trans e
      obtain ⟨-, -, cs2, e3⟩ := q.own e2.symm
      rw [e3] at e
      simp at e
      exact ht e.2.1.symm
/-- What lies while the law goes on: the result that came in, boxed, and its copy. -/
structure Al (w : World) (a : Rr) (d m : Sl) (b : Rr) (d2 m2 : Sl) (W : World) : Prop where
  be : Below w.heap.size w W
  ba : W.heap[w.heap.size]? = some (.cells (a.cs d m) 33)
  bb : W.heap[w.heap.size + 1]? = some (.cells (b.cs d2 m2) 33)
  da : Dq W W.heap.size d a.data
  ma : Nq W W.heap.size m a.names
  db : Dq W W.heap.size d2 b.data
  mb : Nq W W.heap.size m2 b.names
theorem Al.on {w : World} {a b : Rr} {d m d2 m2 : Sl} {W W' : World} (h : Al w a d m b d2 m2 W) (g : Below W.heap.size W W') : Al w a d m b d2 m2 W' :=
  ⟨h.be.trans (g.mono h.be.size), be_keep g h.ba, be_keep g h.bb, (h.da.below g (Nat.le_refl _)).low, (h.ma.below g (Nat.le_refl _)).low, (h.db.below g (Nat.le_refl _)).low, (h.mb.below g (Nat.le_refl _)).low⟩
theorem Al.hasA {w : World} {a b : Rr} {d m d2 m2 : Sl} {W : World} (h : Al w a d m b d2 m2 W) : Has11 W w.heap.size 0 ∧ at11 W w.heap.size 0 = a.cs d m := has11_of rfl fun j v hj => by rw [cell_of h.ba, Nat.zero_add]; exact hj
theorem Al.hasB {w : World} {a b : Rr} {d m d2 m2 : Sl} {W : World} (h : Al w a d m b d2 m2 W) : Has11 W (w.heap.size + 1) 0 ∧ at11 W (w.heap.size + 1) 0 = b.cs d2 m2 := has11_of rfl fun j v hj => by rw [cell_of h.bb, Nat.zero_add]; exact hj
theorem no_u8 (b : Rr) (d m : Sl) (i : Nat) (x : Int) : ¬ (b.cs d m)[i]? = some (.int .u8 x) := by
  intro h
  have hi : i < 11 := by
    have := (Array.getElem?_eq_some_iff.1 h).1
    simpa using this
  match i, hi with
  | 0, _ | 1, _ | 2, _ | 3, _ | 4, _ | 5, _ | 6, _ | 7, _ | 8, _ | 9, _ | 10, _ => simp at h
theorem no_str (b : Rr) (d m : Sl) (i : Nat) (x : List UInt8) : ¬ (b.cs d m)[i]? = some (S x) := by
  intro h
  have hi : i < 11 := by
    have := (Array.getElem?_eq_some_iff.1 h).1
    simpa using this
  match i, hi with
  | 0, _ | 1, _ | 2, _ | 3, _ | 4, _ | 5, _ | 6, _ | 7, _ | 8, _ | 9, _ | 10, _ => simp at h
/-- A field of the copy is turned. -/
theorem Al.put {w : World} {a b b' : Rr} {d m d2 m2 d3 m3 : Sl} {W X : World} (h : Al w a d m b d2 m2 W) (j : Nat) (v : Value) (hX : W.setCell ⟨w.heap.size + 1, j, none⟩ v = X) (hv : (b.cs d2 m2).setIfInBounds j v = b'.cs d3 m3) (hd : Dq W W.heap.size d3 b'.data) (hm : Nq W W.heap.size m3 b'.names) : Al w a d m b' d3 m3 X := by
  have gr : Gr (w.heap.size + 1) W X := hX ▸ Gr.set _ j W v
  have hs : w.heap.size + 1 < W.heap.size := lt_of_heap h.bb
  have hsz : X.heap.size = W.heap.size := by rw [← hX]; simp
  have cd : ∀ {s : Sl} {l : List UInt8}, Dq W W.heap.size s l → Dq X X.heap.size s l := fun {s l} q => ⟨q.1, q.2.1, q.2.2.1, fun k c hk => by
    obtain ⟨b0, off, e1, e2, -, e4⟩ := q.2.2.2 k c hk
    refine ⟨b0, off, e1, by rw [hsz]; exact e2, .inl (by rw [hsz]; exact e2), ?_⟩
    by_cases hb0 : b0 = w.heap.size + 1
    · subst hb0
      rw [cell_of h.bb] at e4
      exact absurd e4 (no_u8 b d2 m2 _ _)
    · rw [World.cell?_of_block (gr.block b0 e2 (by simpa using hb0))]
      exact e4⟩
  have cm : ∀ {s : Sl} {l : List (List UInt8)}, Nq W W.heap.size s l → Nq X X.heap.size s l := fun {s l} q => ⟨q.1, q.2.1, q.2.2.1, fun k c hk => by
    obtain ⟨b0, off, e1, e2, -, e4⟩ := q.2.2.2 k c hk
    refine ⟨b0, off, e1, by rw [hsz]; exact e2, .inl (by rw [hsz]; exact e2), ?_⟩
    by_cases hb0 : b0 = w.heap.size + 1
    · subst hb0
      rw [cell_of h.bb] at e4
      exact absurd e4 (no_str b d2 m2 _ _)
    · rw [World.cell?_of_block (gr.block b0 e2 (by simpa using hb0))]
      exact e4⟩
  exact ⟨h.be.trans (gr.below (by omega) (by omega)), gr.keep h.ba (by omega), by rw [← hX, heap_set h.bb, hv], cd h.da, cm h.ma, cd hd, cm hm⟩
/-- Bytes that are cut to one row of one's own, and texts so. -/
theorem emptyB (W : World) : Bw (W.alloc (.cells #[] 5)) (W.alloc (.cells #[] 5)).heap.size (.slice none 0 0) [] := Bw.nil _ _
theorem madeB (W : World) : Bw (W.alloc (.cells #[] 5)) W.heap.size (.slice (some ⟨W.heap.size, 0, none⟩) 0 0) [] :=
  .inr ⟨W.heap.size, 0, #[], (0, 0), rfl, Nat.le_refl _, heap_alloc_new W _, .inl rfl, Nat.le_refl _, Nat.zero_le _, rfl, rfl⟩
theorem madeT (W : World) : Tw (W.alloc (.cells #[] 9)) W.heap.size (.slice (some ⟨W.heap.size, 0, none⟩) 0 0) [] :=
  ⟨rfl, .inr ⟨W.heap.size, 0, #[], rfl, Nat.le_refl _, heap_alloc_new W _, Nat.le_refl _, Nat.zero_le _, rfl, rfl⟩⟩
def RA (a : Rr) (d m : Sl) : Array Value := a.cs d m
set_option maxRecDepth 100000 in
set_option maxHeartbeats 4000000 in
theorem alike_walk (a : Rr) (d m : Sl) (how : Int) (hw : (Lit.int .i64 how).wf = true) (w : World) (hra : Ra w a d m) :
    Calls Try.prog 7 #[.agg (a.cs d m), I how] w fun e w' => e = .returned (.bool true) ∧ Below w.heap.size w w' := by
  obtain ⟨d0, d1, d2'⟩ := d
  obtain ⟨m0, m1, m2'⟩ := m
  obtain ⟨C, hC⟩ : ∃ C, C = a.cs ⟨d0, d1, d2'⟩ ⟨m0, m1, m2'⟩ := ⟨_, rfl⟩
  have sC : C.size = 11 := by rw [hC]; rfl
  obtain ⟨V1, hV1⟩ : ∃ V, w.alloc (.cells C 33) = V := ⟨_, rfl⟩
  have a1 : V1.heap[w.heap.size]? = some (.cells C 33) := by rw [← hV1]; exact heap_alloc_new _ _
  have b1 : Below w.heap.size w V1 := by rw [← hV1]; exact (Below.refl _ _).alloc (Nat.le_refl _) _
  have s1 : V1.heap.size = w.heap.size + 1 := by rw [← hV1]; simp
  have h1 := has11_of (W := V1) (g := w.heap.size) (o := 0) (A := C) sC (fun j v hj => by rw [cell_of a1, Nat.zero_add]; exact hj)
  have lA := h1.1
  have mA := h1.2
  obtain ⟨V2, hV2, s2, a2, b2⟩ := alloc1 V1 (.cells Z11 33)
  rw [s1] at a2
  obtain ⟨X, hX⟩ : ∃ X, V2.setRow (w.heap.size + 1) C = X := ⟨_, rfl⟩
  have aX : X.heap[w.heap.size + 1]? = some (.cells C 33) := by rw [← hX, setRow_heap V2 _ _ C _ _ a2]
  have grX : Gr (w.heap.size + 1) V2 X := ⟨by rw [← hX]; rfl, by rw [← hX]; rfl, by rw [← hX]; rfl, by rw [← hX]; simp, fun q _ hq => by rw [← hX]; exact setRow_other V2 _ q _ (fun e => hq (by simp [e]))⟩
  have bX : Below w.heap.size w X := (b1.trans (b2.mono b1.size)).trans (grX.below (by omega) (by omega))
  have sX : X.heap.size = w.heap.size + 2 := by rw [← hX]; simp; omega
  have AX : Al w a ⟨d0, d1, d2'⟩ ⟨m0, m1, m2'⟩ a ⟨d0, d1, d2'⟩ ⟨m0, m1, m2'⟩ X := ⟨bX, by rw [← hC]; exact grX.keep (be_keep b2 a1) (by omega), by rw [← hC]; exact aX, (hra.d.below bX (Nat.le_refl _)).low, (hra.m.below bX (Nat.le_refl _)).low, (hra.d.below bX (Nat.le_refl _)).low, (hra.m.below bX (Nat.le_refl _)).low⟩
  have hone : C.all (·.oneCell') = true := by rw [hC]; simp [Value.oneCell']
  have hin2 : (Try.prog.info? 33).map (·.size) = some C.size := by rw [sC]; kernel_rfl
  have hsz : Z11.size = C.size := by rw [sC]; rfl
  have hst : V1.heap.size = w.heap.size + 1 := s1
  have HAX := hide AX
  have HRA := hide hra
  have HCC := hide hC
  have HSX := hide sX
  rw [← hC]
  clear hra hC sC s1 h1 a1 b1 s2 b2 aX grX bX sX AX
  go_enter Try.func7, Try.ntmps7
  go_upto_region 2 with (first | (refine wpList_store_row rfl 33 (.tmp 5) (.tmp 6) rfl (w.heap.size + 1) C (by rfl) (by rfl) 33 Z11 a2 hin2 hsz hone ?_; rw [hX]))
  clear hV1 hV2 lA mA a2 hX hone hin2 hsz
  have r := unhide HRA
  -- the copy's bytes
  have HV3 : Below X.heap.size X (X.alloc (.cells #[] 5)) := (Below.refl _ _).alloc (Nat.le_refl _) _
  have A3 := (unhide HAX).on HV3
  obtain ⟨v1, W1, hrun1, hw1, hk1⟩ := (madeB X).app (by simp) 26 d0 a.data d1 d2' A3.da.1 A3.da.by' (by have := r.l; simp; omega)
  have hw1' : Bw W1 X.heap.size v1 a.data := hw1
  obtain ⟨⟨p0, p1, p2⟩, hv1, dq1⟩ := Dq.of_bw (h := 0) hw1'
  subst hv1
  have A4 := (unhide HAX).on (HV3.trans hk1.be)
  obtain ⟨Y1, hY1⟩ : ∃ Y, W1.setCell ⟨w.heap.size + 1, 2, none⟩ (.slice p0 p1 p2) = Y := ⟨_, rfl⟩
  have A5 := A4.put (b' := a) (d3 := ⟨p0, p1, p2⟩) (m3 := ⟨m0, m1, m2'⟩) 2 _ hY1 rfl (dq1.mono (Nat.zero_le _)) A4.mb
  -- and its texts
  have HV5 : Below Y1.heap.size Y1 (Y1.alloc (.cells #[] 9)) := (Below.refl _ _).alloc (Nat.le_refl _) _
  have A6 := A5.on HV5
  obtain ⟨v2, W2, hrun2, tw2, bb2, tt2⟩ := (madeT Y1).app (by simp) m0 m1 m2' a.names A6.ma (by have := r.n; simp; omega)
  obtain ⟨⟨n0, n1, n2⟩, hv2, nq2⟩ := (Tw.base0 tw2).nq
  subst hv2
  have A7 := A5.on (HV5.trans bb2)
  obtain ⟨Y2, hY2⟩ : ∃ Y, W2.setCell ⟨w.heap.size + 1, 3, none⟩ (.slice n0 n1 n2) = Y := ⟨_, rfl⟩
  have A8 := A7.put (b' := a) (d3 := ⟨p0, p1, p2⟩) (m3 := ⟨n0, n1, n2⟩) 3 _ hY2 rfl A7.db (nq2.mono (Nat.zero_le _))
  have c3 : (X.alloc (.cells #[] 5)).cell? ⟨w.heap.size, 2, none⟩ = some (.slice d0 d1 d2') := by rw [cell_of A3.ba]; rfl
  have c4 : W1.cell? ⟨w.heap.size + 1, 2, none⟩ = some (.slice d0 d1 d2') := by rw [cell_of A4.bb]; rfl
  have f4 := frozen_of A4.bb 2
  have c5 : (Y1.alloc (.cells #[] 9)).cell? ⟨w.heap.size, 3, none⟩ = some (.slice m0 m1 m2') := by rw [cell_of A6.ba]; rfl
  have c6 : W2.cell? ⟨w.heap.size + 1, 3, none⟩ = some (.slice m0 m1 m2') := by rw [cell_of A7.bb]; rfl
  have f6 := frozen_of A7.bb 3
  have hn33 : ∀ {W : World} {cs : Array Value} {k : Nat} {cs2 : Array Value} {f : Nat × Nat}, W.heap[w.heap.size + 1]? = some (.cells cs 33) → W.heap[k]? = some (.cells cs2 5 f) → k ≠ w.heap.size + 1 := fun h1 h2 e => by
    subst e
    rw [h1] at h2
    simp at h2
  have hn39 : ∀ {W : World} {cs : Array Value} {k : Nat} {cs2 : Array Value}, W.heap[w.heap.size + 1]? = some (.cells cs 33) → W.heap[k]? = some (.cells cs2 9) → k ≠ w.heap.size + 1 := fun h1 h2 e => by
    subst e
    rw [h1] at h2
    simp at h2
  have gY1 : Gr (w.heap.size + 1) W1 Y1 := hY1 ▸ Gr.set _ 2 W1 _
  have gY2 : Gr (w.heap.size + 1) W2 Y2 := hY2 ▸ Gr.set _ 3 W2 _
  have HBW := hide (show Bw Y2 X.heap.size (.slice p0 p1 p2) a.data from hw1'.keep5 fun k cs f e => by
    have e1 := gY1.keep e (hn33 A4.bb e)
    have e2 := tt2 k cs 5 f (be_keep HV5 e1) (by decide)
    exact gY2.keep e2 (hn33 A7.bb e2))
  have HTW := hide (show Tw Y2 Y1.heap.size (.slice n0 n1 n2) a.names from Tw.below (show Tw W2 Y1.heap.size (.slice n0 n1 n2) a.names from tw2) fun b cs _ e => gY2.keep e (hn39 A7.bb e))
  have HLY := hide (show w.heap.size ≤ Y1.heap.size from by
    have z1 := hk1.be.size
    have z2 := gY1.size
    have z3 := HV3.size
    have z4 := unhide HSX
    omega)
  have HLE := hide (show X.heap.size ≤ Y2.heap.size ∧ Y1.heap.size ≤ Y2.heap.size from by
    have z1 := hk1.be.size
    have z2 := gY1.size
    have z3 := HV5.size
    have z4 := bb2.size
    have z5 := gY2.size
    have z6 := HV3.size
    omega)
  have HA8 := hide A8
  have lA := A8.hasA.1
  have mA := A8.hasA.2
  rw [← unhide HCC] at mA
  have lB := A8.hasB.1
  obtain ⟨D, hD⟩ : ∃ D, D = a.cs ⟨p0, p1, p2⟩ ⟨n0, n1, n2⟩ := ⟨_, rfl⟩
  have mB := A8.hasB.2
  rw [← hD] at mB
  have HAB := hide (show Calls Try.prog 15 #[.agg C, .agg D] Y2 fun e w' => e = .returned (.bool true) ∧ Below Y2.heap.size Y2 w' from by
    rw [unhide HCC, hD, ← sameR_self a]
    exact same_any a a _ _ _ _ Y2 A8.da A8.ma A8.db A8.mb)
  clear hD
  go_upto_region 4 with (first | (at_builtin; refine wpList_app rfl _ _ 26 26 rfl 26 rfl _ _ (by rfl) (by rfl) _ _ hrun1 ?_; clear hrun1) | (at_builtin; refine wpList_app rfl _ _ 29 29 rfl 29 rfl _ _ (by rfl) (by rfl) _ _ hrun2 ?_; clear hrun2))
  clear r HV3 A3 hw1 hk1 dq1 hw1' A4 hY1 A5 HV5 A6 tw2 tt2 bb2 nq2 A7 hY2 A8 c3 c4 f4 c5 c6 f6 hn33 hn39 gY1 gY2
  go_wp2_with fail
  refine (unhide HAB).mono ?_
  rintro e w3 ⟨rfl, be3⟩
  have A9 := (unhide HA8).on be3
  have l3A := A9.hasA.1
  have m3A := A9.hasA.2
  rw [← unhide HCC] at m3A
  have l3B := A9.hasB.1
  obtain ⟨D, hD⟩ : ∃ D, D = a.cs ⟨p0, p1, p2⟩ ⟨n0, n1, n2⟩ := ⟨_, rfl⟩
  have m3B := A9.hasB.2
  rw [← hD] at m3B
  have HBA := hide (show Calls Try.prog 15 #[.agg D, .agg C] w3 fun e w' => e = .returned (.bool true) ∧ Below w3.heap.size w3 w' from by
    rw [unhide HCC, hD, ← sameR_self a]
    exact same_any a a _ _ _ _ w3 A9.db A9.mb A9.da A9.ma)
  have HBE := hide be3
  have HA9 := hide A9
  clear hD be3 A9
  go_wp2_with fail
  refine (unhide HBA).mono ?_
  rintro e w4 ⟨rfl, be4⟩
  have be := (unhide HBE).trans (be4.mono (unhide HBE).size)
  have HA4 := hide ((unhide HA9).on be4)
  have HB4 := hide ((unhide HBW).below be)
  have HT4 := hide ((unhide HTW).below fun b cs _ e => be_keep be e)
  have HL4 := hide (And.intro (Nat.le_trans (unhide HLE).1 be.size) (Nat.le_trans (unhide HLE).2 be.size))
  clear be be4 HBE HA9 HA8 HBW HTW HLE lA mA lB mB l3A m3A l3B m3B
  have hw1 : -9223372036854775808 ≤ how ∧ how ≤ 9223372036854775807 := by
    simp [Lit.wf, IntKind.signed, IntKind.bits, IntKind.min, IntKind.max] at hw
    exact hw
  clear hw
  go_upto_if 28 with fail
  go_cut [1] from 28 to 31 (fun v wd => (∃ q : Int, v = I q ∧ 0 ≤ q ∧ q ≤ 9223372036854775807) ∧ wd = w4)
  case first =>
    by_cases hneg : how < 0
    · have z1 : 0 ≤ -(how + 1) ∧ -(how + 1) ≤ 9223372036854775807 := by omega
      go_wp2_with fail
      go_meet
      case rel => exact ⟨⟨_, by go_num, z1.1, z1.2⟩, rfl⟩
    · go_wp2_with fail
      go_meet
      case rel => exact ⟨⟨how, rfl, by omega, hw1.2⟩, rfl⟩
  case rest =>
  obtain ⟨⟨q, rfl, hq0, hq1⟩, rfl⟩ := hcut
  clear hw1
  obtain ⟨rm, hrm⟩ : ∃ rm, q % 6 = rm := ⟨_, rfl⟩
  have hrm1 : q.tmod 6 = rm := by rw [Int.tmod_eq_emod_of_nonneg hq0]; exact hrm
  have hr0 : 0 ≤ rm := by omega
  have hr6 : rm < 6 := by omega
  go_upto_block 0 with fail
  clear hrm hrm1 hq0 hq1
  go_cut [] from 34 to 73 (fun wd => ∃ (b : Rr) (d2 m2 : Sl), Hid (Al w a ⟨d0, d1, d2'⟩ ⟨m0, m1, m2'⟩ b d2 m2 wd ∧ sameR a b = false))
  case first =>
    have hcs : rm = 0 ∨ rm = 1 ∨ rm = 2 ∨ rm = 3 ∨ rm = 4 ∨ rm = 5 := by omega
    clear hr0 hr6
    rcases hcs with rfl | rfl | rfl | rfl | rfl | rfl
    · have A := unhide HA4
      obtain ⟨b0, b1, b2, b3, b4, b5, b6, b7, b8, b9, b10⟩ := cells11 A.bb
      have ff := frozen_of A.bb 0
      obtain ⟨Z, hZ⟩ : ∃ Z, wc.setCell ⟨w.heap.size + 1, 0, none⟩ (I (bits .xor .i64 a.why 1)) = Z := ⟨_, rfl⟩
      have HAZ := hide (And.intro (A.put (b' := { a with why := bits .xor .i64 a.why 1 }) (d3 := ⟨p0, p1, p2⟩) (m3 := ⟨n0, n1, n2⟩) 0 _ hZ rfl A.db A.mb) (sameR_ne (a := a) (b := { a with why := bits .xor .i64 a.why 1 }) (.inl (fun e => xor_ne _ e.symm))))
      clear A
      go_wp2_with fail
      go_meet
      case rel => exact ⟨_, _, _, unhide HAZ⟩
    · have A := unhide HA4
      obtain ⟨b0, b1, b2, b3, b4, b5, b6, b7, b8, b9, b10⟩ := cells11 A.bb
      have ff := frozen_of A.bb 1
      obtain ⟨Z, hZ⟩ : ∃ Z, wc.setCell ⟨w.heap.size + 1, 1, none⟩ (I (bits .xor .i64 a.n 1)) = Z := ⟨_, rfl⟩
      have HAZ := hide (And.intro (A.put (b' := { a with n := bits .xor .i64 a.n 1 }) (d3 := ⟨p0, p1, p2⟩) (m3 := ⟨n0, n1, n2⟩) 1 _ hZ rfl A.db A.mb) (sameR_ne (a := a) (b := { a with n := bits .xor .i64 a.n 1 }) (.inr (.inl (fun e => xor_ne _ e.symm)))))
      clear A
      go_wp2_with fail
      go_meet
      case rel => exact ⟨_, _, _, unhide HAZ⟩
    · have A := unhide HA4
      obtain ⟨v5, W5, hrun5, hw5, hk5⟩ := Bw.new (unhide HB4) (unhide HL4).1 26 [0] 1 rfl #[.int .u8 0] rfl (by have := (unhide HRA).l; simp; omega)
      obtain ⟨⟨g0, g1, g2⟩, hv5, dq5⟩ := Dq.of_bw (h := 0) hw5
      subst hv5
      have hsx := unhide HSX
      have bb5 : W5.heap[w.heap.size + 1]? = some (.cells (a.cs ⟨p0, p1, p2⟩ ⟨n0, n1, n2⟩) 33) := (hk5.be.block _ (by omega)).trans A.bb
      have ba5 : W5.heap[w.heap.size]? = some (.cells (a.cs ⟨d0, d1, d2'⟩ ⟨m0, m1, m2'⟩) 33) := (hk5.be.block _ (by omega)).trans A.ba
      have be5 : Below w.heap.size w W5 := A.be.trans (hk5.be.mono (by omega))
      have tw5 : Tw W5 0 (.slice n0 n1 n2) a.names := (Tw.below (unhide HT4) fun b cs _ e => hk5.keep e (by decide)).base0
      obtain ⟨⟨x0, x1, x2⟩, hx5, nq5⟩ := tw5.nq
      simp only [Value.slice.injEq] at hx5
      obtain ⟨rfl, rfl, rfl⟩ := hx5
      obtain ⟨Z, hZ⟩ : ∃ Z, W5.setCell ⟨w.heap.size + 1, 2, none⟩ (.slice g0 g1 g2) = Z := ⟨_, rfl⟩
      have gZ : Gr (w.heap.size + 1) W5 Z := hZ ▸ Gr.set _ 2 W5 _
      have kZ : Kt (w.heap.size + 1) W5 Z := Kt.gr gZ (Nat.le_refl _) (Nat.le_of_lt (lt_of_heap bb5)) bb5 (by decide) (by decide)
      have kZ0 : Kt 0 W5 Z := ⟨kZ.be.mono (Nat.zero_le _), kZ.ok⟩
      have beZ : Below w.heap.size w Z := be5.trans (kZ.be.mono (by omega))
      have HAZ := hide (And.intro (show Al w a ⟨d0, d1, d2'⟩ ⟨m0, m1, m2'⟩ { a with data := a.data ++ [0] } ⟨g0, g1, g2⟩ ⟨n0, n1, n2⟩ Z from
        ⟨beZ, gZ.keep ba5 (by omega), by rw [← hZ, heap_set bb5]; rfl, ((unhide HRA).d.below beZ (Nat.le_refl _)).low, ((unhide HRA).m.below beZ (Nat.le_refl _)).low, (dq5.kt kZ0).mono (Nat.zero_le _), (nq5.kt kZ0).mono (Nat.zero_le _)⟩)
        (sameR_ne (a := a) (b := { a with data := a.data ++ [0] }) (.inr (.inr (.inl (fun e => by have := congrArg List.length e; simp at this))))))
      have c2 : (wc.alloc (.cells #[.int .u8 0] 5)).cell? ⟨w.heap.size + 1, 2, none⟩ = some (.slice p0 p1 p2) := by rw [cell_of (be_keep ((Below.refl _ wc).alloc (Nat.le_refl _) _) A.bb)]; rfl
      have c0 : wc.cell? ⟨w.heap.size + 1, 2, none⟩ = some (.slice p0 p1 p2) := by rw [cell_of A.bb]; rfl
      have c5 : W5.cell? ⟨w.heap.size + 1, 2, none⟩ = some (.slice p0 p1 p2) := by rw [cell_of bb5]; rfl
      have f5 := frozen_of bb5 2
      clear A hw5 hk5 dq5 hsx bb5 ba5 be5 tw5 nq5 gZ kZ kZ0 beZ
      go_wp2_with (at_builtin; refine wpList_app rfl _ _ 26 26 rfl 26 rfl _ _ (by rfl) (by rfl) _ _ hrun5 ?_; clear hrun5)
      go_meet
      case rel => exact ⟨_, _, _, unhide HAZ⟩
    · have A := unhide HA4
      obtain ⟨v5, W5, hrun0, hw5, be0, tt5⟩ := Tw.new (unhide HT4) (unhide HL4).2 [] (by have := (unhide HRA).n; omega)
      have hrun5 : (Builtin.append_ #[29, 29] 29 #[.slice n0 n1 n2, .slice (some ⟨wc.heap.size, 0, none⟩) 1 1]).run Try.prog (wc.alloc (.cells #[.string ⟨#[]⟩] 9)) = .ok v5 W5 := hrun0
      obtain ⟨⟨g0, g1, g2⟩, hv5, nq5⟩ := hw5.base0.nq
      subst hv5
      have bb5 : W5.heap[w.heap.size + 1]? = some (.cells (a.cs ⟨p0, p1, p2⟩ ⟨n0, n1, n2⟩) 33) := tt5 _ _ _ _ A.bb (by decide)
      have ba5 : W5.heap[w.heap.size]? = some (.cells (a.cs ⟨d0, d1, d2'⟩ ⟨m0, m1, m2'⟩) 33) := tt5 _ _ _ _ A.ba (by decide)
      have be5 : Below w.heap.size w W5 := A.be.trans (be0.mono (unhide HLY))
      have bw5 : Bw W5 X.heap.size (.slice p0 p1 p2) a.data := (unhide HB4).keep5 fun k cs f e => tt5 k cs 5 f e (by decide)
      obtain ⟨⟨x0, x1, x2⟩, hx5, dq5⟩ := Dq.of_bw (h := 0) bw5
      simp only [Value.slice.injEq] at hx5
      obtain ⟨rfl, rfl, rfl⟩ := hx5
      obtain ⟨Z, hZ⟩ : ∃ Z, W5.setCell ⟨w.heap.size + 1, 3, none⟩ (.slice g0 g1 g2) = Z := ⟨_, rfl⟩
      have gZ : Gr (w.heap.size + 1) W5 Z := hZ ▸ Gr.set _ 3 W5 _
      have kZ : Kt (w.heap.size + 1) W5 Z := Kt.gr gZ (Nat.le_refl _) (Nat.le_of_lt (lt_of_heap bb5)) bb5 (by decide) (by decide)
      have kZ0 : Kt 0 W5 Z := ⟨kZ.be.mono (Nat.zero_le _), kZ.ok⟩
      have beZ : Below w.heap.size w Z := be5.trans (kZ.be.mono (by omega))
      have HAZ := hide (And.intro (show Al w a ⟨d0, d1, d2'⟩ ⟨m0, m1, m2'⟩ { a with names := a.names ++ [[]] } ⟨p0, p1, p2⟩ ⟨g0, g1, g2⟩ Z from
        ⟨beZ, gZ.keep ba5 (by omega), by rw [← hZ, heap_set bb5]; rfl, ((unhide HRA).d.below beZ (Nat.le_refl _)).low, ((unhide HRA).m.below beZ (Nat.le_refl _)).low, (dq5.kt kZ0).mono (Nat.zero_le _), (nq5.kt kZ0).mono (Nat.zero_le _)⟩)
        (sameR_ne (a := a) (b := { a with names := a.names ++ [[]] }) (.inr (.inr (.inr (.inl (fun e => by have := congrArg List.length e; simp at this)))))))
      have c2 : (wc.alloc (.cells #[.string ⟨#[]⟩] 9)).cell? ⟨w.heap.size + 1, 3, none⟩ = some (.slice n0 n1 n2) := by rw [cell_of (be_keep ((Below.refl _ wc).alloc (Nat.le_refl _) _) A.bb)]; rfl
      have c0 : wc.cell? ⟨w.heap.size + 1, 3, none⟩ = some (.slice n0 n1 n2) := by rw [cell_of A.bb]; rfl
      have c5 : W5.cell? ⟨w.heap.size + 1, 3, none⟩ = some (.slice n0 n1 n2) := by rw [cell_of bb5]; rfl
      have f5 := frozen_of bb5 3
      clear A hrun0 hw5 be0 tt5 nq5 dq5 bw5 bb5 ba5 be5 gZ kZ kZ0 beZ
      go_wp2_with (at_builtin; refine wpList_app rfl _ _ 29 29 rfl 29 rfl _ _ (by rfl) (by rfl) _ _ hrun5 ?_; clear hrun5)
      go_meet
      case rel => exact ⟨_, _, _, unhide HAZ⟩
    · have A := unhide HA4
      obtain ⟨b0, b1, b2, b3, b4, b5, b6, b7, b8, b9, b10⟩ := cells11 A.bb
      have ff := frozen_of A.bb 10
      obtain ⟨Z, hZ⟩ : ∃ Z, wc.setCell ⟨w.heap.size + 1, 10, none⟩ (I (bits .xor .i64 a.size 1)) = Z := ⟨_, rfl⟩
      have HAZ := hide (And.intro (A.put (b' := { a with size := bits .xor .i64 a.size 1 }) (d3 := ⟨p0, p1, p2⟩) (m3 := ⟨n0, n1, n2⟩) 10 _ hZ rfl A.db A.mb) (sameR_ne (a := a) (b := { a with size := bits .xor .i64 a.size 1 }) (.inr (.inr (.inr (.inr (.inl (fun e => xor_ne _ e.symm))))))))
      clear A
      go_wp2_with fail
      go_meet
      case rel => exact ⟨_, _, _, unhide HAZ⟩
    · have A := unhide HA4
      obtain ⟨b0, b1, b2, b3, b4, b5, b6, b7, b8, b9, b10⟩ := cells11 A.bb
      have ff := frozen_of A.bb 6
      obtain ⟨Z, hZ⟩ : ∃ Z, wc.setCell ⟨w.heap.size + 1, 6, none⟩ (I (bits .xor .i64 a.mode 1)) = Z := ⟨_, rfl⟩
      have HAZ := hide (And.intro (A.put (b' := { a with mode := bits .xor .i64 a.mode 1 }) (d3 := ⟨p0, p1, p2⟩) (m3 := ⟨n0, n1, n2⟩) 6 _ hZ rfl A.db A.mb) (sameR_ne (a := a) (b := { a with mode := bits .xor .i64 a.mode 1 }) (.inr (.inr (.inr (.inr (.inr ((fun e => xor_ne _ e.symm)))))))))
      clear A
      go_wp2_with fail
      go_meet
      case rel => exact ⟨_, _, _, unhide HAZ⟩
  case rest =>
  obtain ⟨b, d2, m2, HAR⟩ := hcut
  have A := (unhide HAR).1
  have hne := (unhide HAR).2
  obtain ⟨D2, hD2⟩ : ∃ D, D = b.cs d2 m2 := ⟨_, rfl⟩
  have lA := A.hasA.1
  have mA := A.hasA.2
  rw [← unhide HCC] at mA
  have lB := A.hasB.1
  have mB := A.hasB.2
  rw [← hD2] at mB
  have HS1 := hide (show Calls Try.prog 15 #[.agg C, .agg D2] wc fun e w' => e = .returned (.bool false) ∧ Below wc.heap.size wc w' from by
    rw [unhide HCC, hD2, ← hne]
    exact same_any a b _ _ _ _ wc A.da A.ma A.db A.mb)
  have HD2 := hide hD2
  clear A hne hD2
  go_wp2_with fail
  refine (unhide HS1).mono ?_
  rintro e w7 ⟨rfl, be7⟩
  have A7 := (unhide HAR).1.on be7
  have l7A := A7.hasA.1
  have m7A := A7.hasA.2
  rw [← unhide HCC] at m7A
  have l7B := A7.hasB.1
  have m7B := A7.hasB.2
  rw [← unhide HD2] at m7B
  have HS2 := hide (show Calls Try.prog 15 #[.agg D2, .agg C] w7 fun e w' => e = .returned (.bool false) ∧ Below w7.heap.size w7 w' from by
    rw [unhide HCC, unhide HD2, ← (unhide HAR).2, sameR_comm]
    exact same_any b a _ _ _ _ w7 A7.db A7.mb A7.da A7.ma)
  have HB7 := hide A7.be
  clear A7 be7
  go_wp2_with (first | (go_at_call 15; refine (unhide HS2).mono ?_; rintro e w8 ⟨rfl, be8⟩; have HB8 := hide ((unhide HB7).trans (be8.mono (unhide HB7).size)); clear be8) | (go_at_call 11; refine (known_any _).mono ?_; rintro e w9 ⟨rfl, be9⟩))
  go_ret
  exact ⟨rfl, (unhide HB8).trans (be9.mono (unhide HB8).size)⟩
end Go.Proofs.Ytlokihpegllddaa.Cl
