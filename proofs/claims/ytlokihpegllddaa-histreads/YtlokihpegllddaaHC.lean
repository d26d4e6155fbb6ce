/-
  Rows of texts that a call owns; the contract of ownResult.
-/
import Derived.Test.YtlokihpegllddaaHB
import Derived.Deep.RegionHeld3
import Derived.Deep.RegionLaw
import Derived.Deep.Slices
import Derived.Deep.LoopGhost
import Derived.Lib.Walk
namespace Go.Proofs.Ytlokihpegllddaa.Cl
open Go.RowKit Go.Shelf
attribute [local go_sem ↓] Go.wp_at_zero Go.wp_at_succ

theorem step_app {P : Program} {w : World} {ops : Array Oper} {o : Oper} {a : Act} {K : Act → World → Prop} {Q : Exit → Act → World → Prop} {E : Prop} (hgd : o.guard = none) (s x : Operand) (t t2 : TypeId)
    (ho : o.op = .call { callee := .builtin .append, args := #[s, x], argTypes := #[t, t2] }) (ty : TypeId) (hty : o.type = ty) (vs vx : Value) (hs : a.eval s = vs) (hx : a.eval x = vx) (v' : Value) (w' : World)
    (hrun : (Builtin.append_ #[t, t2] ty #[vs, vx]).run P w = .ok v' w') (h : K (a.put o.dst v') w') :
    if Region.wanted o (yielded ops a.tmps) = true then Oper.wp P o a w K Q else E := by
  have hw : Region.wanted o (yielded ops a.tmps) = true := by simp [Region.wanted, hgd]
  rw [if_pos hw]
  unfold Oper.wp execOp
  simp only [ho, resolve, invoke, builtin, Sem.run_bind, Sem.run_pure, Result.andThen_ok, List.map_toArray, List.map_cons, List.map_nil, hs, hx, hty, hrun]
  exact h
/-- A row of texts that a call owns, from block h on. -/
def Tw (W : World) (h : Nat) (v : Value) (l : List (List UInt8)) : Prop := W.ownsRow h 9 1 v l.length (l.map S)
theorem Tw.nil (W : World) (h : Nat) : Tw W h (.slice none 0 0) [] := World.ownsRow_nil _ _ _ _
theorem Tw.below {W W' : World} {h : Nat} {v : Value} {l : List (List UInt8)} (q : Tw W h v l) (g : ∀ b cs, v.ownBlock = some b → W.heap[b]? = some (.cells cs 9) → W'.heap[b]? = some (.cells cs 9)) : Tw W' h v l := by
  obtain ⟨h1, h2⟩ := q
  refine ⟨h1, ?_⟩
  obtain h2 | ⟨b, cap, cur, e1, e2, e3, e4⟩ := h2
  · exact .inl h2
  · exact .inr ⟨b, cap, cur, e1, e2, g b _ (by rw [e1]; rfl) e3, e4⟩
theorem Tw.own {W : World} {h : Nat} {v : Value} {l : List (List UInt8)} (q : Tw W h v l) {k : Nat} (e : v.ownBlock = some k) : h ≤ k ∧ k < W.heap.size ∧ ∃ cs, W.heap[k]? = some (.cells cs 9) := by
  obtain ⟨-, ⟨rfl, -⟩ | ⟨g, cap, cur, rfl, h2, h3, -⟩⟩ := q
  · cases e
  · simp [Value.ownBlock] at e
    subst e
    exact ⟨h2, lt_of_heap h3, _, h3⟩
theorem Tw.base0 {W : World} {h : Nat} {v : Value} {l : List (List UInt8)} (q : Tw W h v l) : Tw W 0 v l := by
  obtain ⟨h1, h2⟩ := q
  refine ⟨h1, ?_⟩
  obtain h2 | ⟨b, cap, cur, e1, -, e2⟩ := h2
  · exact .inl h2
  · exact .inr ⟨b, cap, cur, e1, Nat.zero_le _, e2⟩
theorem Tw.nq {W : World} {h : Nat} {v : Value} {l : List (List UInt8)} (q : Tw W h v l) : ∃ s : Sl, v = s.v ∧ Nq W h s l := by
  obtain ⟨-, ⟨rfl, h2⟩ | ⟨g, cap, cur, rfl, h2, h3, h4, h5, h6, h7⟩⟩ := q
  · obtain rfl := List.eq_nil_of_length_eq_zero h2
    exact ⟨sl0, rfl, Nq.nil _ _⟩
  · refine ⟨⟨some ⟨g, 0, none⟩, l.length, cap⟩, rfl, rfl, h4, h5, fun k c hk => ⟨g, 0, rfl, lt_of_heap h3, .inr ⟨_, _, _, h3, .inr rfl⟩, ?_⟩⟩
    have hg : (l.map S)[k]? = some (S c) := by simp [hk]
    rw [← h7] at hg
    have hlt := (List.getElem?_eq_some_iff.1 hg).1
    rw [List.getElem?_take_of_lt (by rw [List.length_take] at hlt; omega)] at hg
    rw [cell_of h3, Nat.zero_add]
    simpa using hg
theorem info9 : (Try.prog.info? 9).map (fun i => (i.zero, i.size, i.bytes)) = some (some (.string ⟨#[]⟩), 1, 16) := by kernel_rfl
/-- One text behind the others: what append leaves. -/
theorem Tw.new {W : World} {h : Nat} {v : Value} {l : List (List UInt8)} (q : Tw W h v l) (hb : h ≤ W.heap.size) (x : List UInt8) (hl : (l.length + 1) * 16 ≤ 140737488355328) :
    ∃ v' W', (Builtin.append_ #[29, 29] 29 #[v, .slice (some ⟨W.heap.size, 0, none⟩) 1 1]).run Try.prog (W.alloc (.cells #[S x] 9)) = .ok v' W' ∧ Tw W' h v' (l ++ [x]) ∧ Below h W W' ∧ ∀ (k : Nat) (cs : Array Value) (t : TypeId) (f : Nat × Nat), W.heap[k]? = some (.cells cs t f) → t ≠ 9 → W'.heap[k]? = some (.cells cs t f) := by
  obtain ⟨i, hi, hi2⟩ : ∃ i, Try.prog.info? 9 = some i ∧ (i.zero, i.size, i.bytes) = (some (.string ⟨#[]⟩), 1, 16) := Option.map_eq_some_iff.1 info9
  simp only [Prod.mk.injEq] at hi2
  obtain ⟨hz0, hz1, hz2⟩ := hi2
  have hB : Below W.heap.size W (W.alloc (.cells #[S x] 9)) := (Below.refl _ _).alloc (Nat.le_refl _) _
  have q1 : Tw (W.alloc (.cells #[S x] 9)) h v l := q.below fun b cs e1 e2 => (hB.block b (lt_of_heap e2)).trans e2
  have h63 : l.length + 1 ≤ maxLen := by unfold maxLen; omega
  obtain ⟨v', W', r1, r2, r3, -, r5⟩ := run_append_own_at (P := Try.prog) (w := W.alloc (.cells #[S x] 9)) h 29 29 9 i (.string ⟨#[]⟩) 1 16 Try.underlying29 hi hz0 hz1 hz2 rfl (by decide) v l.length _ q1 ⟨W.heap.size, 0, none⟩ 1 1 [S x] rfl (fun j u hj => by
    rw [addAt, cell_of (heap_alloc_new W _), Nat.zero_add]
    simpa using hj) (fun u hu => by simp at hu; subst hu; rfl) h63 (by omega) (by simp; omega)
  refine ⟨v', W', r1, ?_, ⟨r3.os, r3.tape, r3.output, by have := r3.size; simp at this ⊢; omega, fun k hk => ?_⟩, fun k cs t f e ht => ?_⟩
  · show W'.ownsRow h 9 1 v' (l ++ [x]).length ((l ++ [x]).map S)
    rw [List.map_append, List.length_append]
    exact r2
  · refine (r3.block k (by simp; omega) (fun e => ?_)).trans (hB.block k (by omega))
    have := (q1.own e.symm).1
    omega
  · refine (r3.block k (by have := lt_of_heap e; simp; omega) (fun e2 => ?_)).trans ((hB.block k (lt_of_heap e)).trans e)
    obtain ⟨-, -, cs2, e3⟩ := q.own e2.symm
    rw [e3] at e
    simp at e
    exact ht e.2.1.symm
theorem Bw.keep5 {W W' : World} {B : Nat} {v : Value} {l : List UInt8} (h : Bw W B v l) (g : ∀ (k : Nat) (cs : Array Value) (f : Nat × Nat), W.heap[k]? = some (.cells cs 5 f) → W'.heap[k]? = some (.cells cs 5 f)) : Bw W' B v l := by
  obtain ⟨rfl, rfl⟩ | ⟨b, cap, cur, fz, rfl, h2, h3, h4⟩ := h
  · exact Bw.nil _ _
  · exact .inr ⟨b, cap, cur, fz, rfl, h2, g _ _ _ h3, h4⟩
/-- What lies while ownResult goes on. -/
structure Ro (h : Nat) (w : World) (r : Rr) (d' : Value) (v : Value) (k : Nat) (W : World) : Prop where
  be : Below h w W
  b0 : W.heap[h]? = some (.cells #[I r.why, I r.n, d', v, I r.node, I r.kind, I r.mode, I r.uid, I r.gid, I r.links, I r.size] 33)
  b1 : W.heap[h + 1]? = some (.cells Z11 33)
  da : Bw W h d' r.data
  na : Tw W h v (r.names.take k)
theorem Ro.on {h : Nat} {w : World} {r : Rr} {d' v : Value} {k : Nat} {W W' : World} (R : Ro h w r d' v k W) (g : Below W.heap.size W W') (hh : w.heap.size = h) : Ro h w r d' v k W' where
  be := R.be.trans (g.mono (hh ▸ R.be.size))
  b0 := be_keep g R.b0
  b1 := be_keep g R.b1
  da := R.da.below g
  na := R.na.below fun _ _ _ e => be_keep g e
theorem Tw.form {W : World} {h : Nat} {v : Value} {l : List (List UInt8)} (q : Tw W h v l) : ∃ a n c, v = .slice a n c := by
  obtain ⟨s, rfl, -⟩ := q.nq
  exact ⟨s.a, s.n, s.c, rfl⟩
theorem Ro.put {h : Nat} {w : World} {r : Rr} {d' v v2 : Value} {k : Nat} {W W2 X : World} {x : List UInt8} (hh : w.heap.size = h) (R : Ro h w r d' v k W) (hx : r.names[k]? = some x) (t2 : Tw W2 h v2 (r.names.take k ++ [x])) (bb : Below h W W2) (tt : ∀ (k : Nat) (cs : Array Value) (t : TypeId) (f : Nat × Nat), W.heap[k]? = some (.cells cs t f) → t ≠ 9 → W2.heap[k]? = some (.cells cs t f)) (hX : W2.setCell ⟨h, 3, none⟩ v2 = X) : Ro h w r d' v2 (k + 1) X := by
  have k2 := tt _ _ _ _ R.b0 (by decide)
  have gr : Gr h W2 X := hX ▸ Gr.set _ 3 W2 v2
  have hb2 : Below h w W2 := R.be.trans bb
  refine ⟨hb2.trans (gr.below (Nat.le_refl _) (hh ▸ hb2.size)), by rw [← hX, heap_set k2]; rfl, gr.keep (tt _ _ _ _ R.b1 (by decide)) (by omega), R.da.keep5 fun b cs f e => gr.keep (tt b cs 5 f e (by decide)) ?_, ?_⟩
  · rintro rfl
    rw [R.b0] at e
    simp at e
  · have e : r.names.take (k + 1) = r.names.take k ++ [x] := by rw [List.take_add_one, hx]; rfl
    rw [e]
    exact t2.below fun b cs _ e2 => gr.keep e2 (by
      rintro rfl
      rw [k2] at e2
      simp at e2)
set_option maxRecDepth 100000 in
set_option maxHeartbeats 4000000 in
theorem ownR_any (r : Rr) (d m : Sl) (w : World) (hd : r.data.length ≤ 140737488355328) (hn : r.names.length * 16 ≤ 140737488355328) (ht : ∀ s ∈ r.names, s.length ≤ 140737488355328) (q : Dq w w.heap.size d r.data) (p : Nq w w.heap.size m r.names) :
    Calls Try.prog 20 #[.agg (r.cs d m)] w fun e w' => ∃ d' m' : Sl, e = .returned (.agg (r.cs d' m')) ∧ Dq w' 0 d' r.data ∧ Nq w' 0 m' r.names ∧ Below w.heap.size w w' := by
  obtain ⟨da, dn, dc⟩ := d
  obtain ⟨ma, mn, mc⟩ := m
  change Calls Try.prog 20 #[.agg #[I r.why, I r.n, .slice da dn dc, .slice ma mn mc, I r.node, I r.kind, I r.mode, I r.uid, I r.gid, I r.links, I r.size]] w _
  obtain ⟨V, hV, hs, g0, g1, hB⟩ := alloc2 w (.cells #[I r.why, I r.n, .slice da dn dc, .slice ma mn mc, I r.node, I r.kind, I r.mode, I r.uid, I r.gid, I r.links, I r.size] 33) (.cells Z11 33)
  obtain ⟨b0, b1, b2, b3, b4, b5, b6, b7, b8, b9, b10⟩ := cells11 g0
  have qX := q.below hB (Nat.le_refl _)
  obtain ⟨v', W3, hrun, hw3, hK3⟩ := (Bw.nil V V.heap.size).app (Nat.le_refl _) 26 da r.data dn dc qX.1 qX.by' (by simpa using hd)
  have k2 := be_keep hK3.be g0
  have k3 := be_keep hK3.be g1
  have c10 := frozen_of k2 2
  have c11 : W3.cell? ⟨w.heap.size, 2, none⟩ = some (.slice da dn dc) := by rw [cell_of k2]; rfl
  obtain ⟨Y, hY⟩ : ∃ Y, W3.setCell ⟨w.heap.size, 2, none⟩ v' = Y := ⟨_, rfl⟩
  have k4 : Y.heap[w.heap.size]? = some (.cells #[I r.why, I r.n, v', .slice ma mn mc, I r.node, I r.kind, I r.mode, I r.uid, I r.gid, I r.links, I r.size] 33) := by rw [← hY, heap_set k2]; rfl
  have grY : Gr w.heap.size W3 Y := hY ▸ Gr.set _ 2 W3 v'
  obtain ⟨o0, o1, o2, o3, o4, o5, o6, o7, o8, o9, o10⟩ := cells11 k4
  have o11 := frozen_of k4 3
  obtain ⟨Z, hZ⟩ : ∃ Z, Y.setCell ⟨w.heap.size, 3, none⟩ (.slice none 0 0) = Z := ⟨_, rfl⟩
  have k5 : Z.heap[w.heap.size]? = some (.cells #[I r.why, I r.n, v', .slice none 0 0, I r.node, I r.kind, I r.mode, I r.uid, I r.gid, I r.links, I r.size] 33) := by rw [← hZ, heap_set k4]; rfl
  have grZ : Gr w.heap.size Y Z := hZ ▸ Gr.set _ 3 Y _
  have hB3 : Below w.heap.size w W3 := hB.trans (hK3.be.mono (by omega))
  have hBZ : Below w.heap.size w Z := (hB3.trans (grY.below (Nat.le_refl _) hB3.size)).trans (grZ.below (Nat.le_refl _) (hB3.trans (grY.below (Nat.le_refl _) hB3.size)).size)
  have hwZ : Bw Z w.heap.size v' r.data := (Bw.base (show Bw W3 V.heap.size v' r.data by simpa using hw3) (by omega)).keep5 fun k cs f e => by
    have n0 : k ≠ w.heap.size := by
      rintro rfl
      rw [k2] at e
      simp at e
    exact grZ.keep (grY.keep e n0) n0
  have HR : Hid (Ro w.heap.size w r v' (.slice none 0 0) 0 Z) := hide ⟨hBZ, k5, grZ.keep (grY.keep k3 (by omega)) (by omega), hwZ, Tw.nil _ _⟩
  have HT := hide ht
  have HN := hide hn
  have HP := hide p
  have hmn : mn = r.names.length := p.1
  have HMN := hide hmn
  have hv' : ∃ a n c, v' = .slice a n c := by obtain ⟨a, cap, e, -⟩ := hw3.form; exact ⟨_, _, _, e⟩
  obtain ⟨va, vn, vc, rfl⟩ := hv'
  clear hs g0 g1 hB qX hw3 hK3 k2 k3 k4 grY k5 grZ hB3 hBZ hwZ q p hd hn ht hmn
  go_enter Try.func20, Try.ntmps20
  go_wp2_with (at_builtin; refine wpList_app rfl _ _ 26 26 rfl 26 rfl _ _ (by rfl) (by rfl) _ _ hrun ?_; clear hrun)
  clear o0 o1 o2 o3 o4 o5 o6 o7 o8 o9 o10 o11 hY hZ hV c10 c11 b0 b1 b2 b3 b4 b5 b6 b7 b8 b9 b10
  go_loopw [15] (fun i wr => ∃ (k : Nat) (a : Option Addr) (n c : Nat), k ≤ mn ∧ i = .int .i64 k ∧ Ro w.heap.size w r (.slice va vn vc) (.slice a n c) k wr) (fun i _ => mn - (intOf i).toNat)
  case atStart => exact ⟨0, none, 0, 0, Nat.zero_le _, rfl, unhide HR⟩
  case round =>
    obtain ⟨k, a, n, c, hk, rfl, R⟩ := hrel
    by_cases hkn : k < mn
    · have j1 : (k : Int) < (mn : Int) := by omega
      have jb : mn ≤ 8796093022208 := by have h1 := unhide HN; have h2 : mn = r.names.length := unhide HMN; omega
      have j0 : (0 : Int) ≤ (k : Int) := by omega
      obtain ⟨x, hx⟩ : ∃ x, r.names[k]? = some x := ⟨_, List.getElem?_eq_getElem (by have h2 : mn = r.names.length := unhide HMN; omega)⟩
      obtain ⟨g, off, e1, e2, e3, e4⟩ := (unhide HP).2.2.2 k x hx
      simp only at e1
      subst e1
      have p4 : wr.cell? ⟨g, off + k, none⟩ = some (S x) := (World.cell?_of_block (R.be.block g e2)).trans e4
      obtain ⟨o0, o1, o2, o3, o4, o5, o6, o7, o8, o9, o10⟩ := cells11 R.b0
      have HX := hide (fun W => clone_any x W (unhide HT x (List.mem_of_getElem? hx)))
      have HR2 := hide R
      have HK := hide hx
      clear R hx e2 e3 e4 HR
      go_wp2_with fail
      go_region_law (first
        | (refine step_app (by rfl) _ _ 29 29 (by rfl) 29 (by rfl) _ _ (by rfl) (by rfl) _ _ hrun2 ?_)
        | (go_simp; go_wp2_with (go_at_call_of 28 (S x); refine (unhide HX _).mono ?_; rintro e W1 ⟨rfl, be1⟩; have R1 := hide ((unhide HR2).on ((below_drew (Below.refl wr.heap.size wr)).trans be1) rfl); obtain ⟨v2, W2, hrun2, t2, bb2, tt2⟩ := Tw.new (unhide R1).na (unhide R1).be.size x (by have h1 := unhide HN; have h2 : mn = r.names.length := unhide HMN; simp [List.length_take]; omega); obtain ⟨a2, n2, c2, rfl⟩ := t2.form; have k2 := tt2 _ _ _ _ (unhide R1).b0 (by decide); obtain ⟨s0, s1, s2, s3, s4, s5, s6, s7, s8, s9, s10⟩ := cells11 (unhide R1).b0; have s11 : (W1.alloc (.cells #[S x] 9)).cell? ⟨w.heap.size, 3, none⟩ = some (.slice a n c) := (cell_of (be_keep ((Below.refl _ _).alloc (Nat.le_refl _) _) (unhide R1).b0) 3).trans rfl; obtain ⟨u0, u1, u2, u3, u4, u5, u6, u7, u8, u9, u10⟩ := cells11 k2; have u11 := frozen_of k2 3; obtain ⟨X, hX⟩ : ∃ X, W2.setCell ⟨w.heap.size, 3, none⟩ (.slice a2 n2 c2) = X := ⟨_, rfl⟩; have R3 := hide ((unhide R1).put rfl (unhide HK) t2 bb2 tt2 hX); clear be1 t2 bb2 tt2 k2)))
      all_goals
        go_wp2_with fail
        exact ⟨⟨k + 1, _, _, _, by omega, by go_num, unhide R3⟩, by simp [intOf]; omega⟩
    · obtain rfl : k = mn := by omega
      have hk2 : r.names.take k = r.names := List.take_of_length_le (by have h2 : k = r.names.length := unhide HMN; omega)
      have hna := R.na
      rw [hk2] at hna
      obtain ⟨m', hm', nq⟩ := (Tw.base0 hna).nq
      obtain ⟨d', hd', dq⟩ := Dq.of_bw (h := 0) R.da
      have hb := R.be
      obtain ⟨o0, o1, o2, o3, o4, o5, o6, o7, o8, o9, o10⟩ := cells11 R.b0
      obtain ⟨Y1, Y2, Y3, Y4, Y5, Y6, Y7, Y8, Y9, Y10, Y11, ⟨p1, p2, p3, p4, p5, p6, p7, p8, p9, p10, p11⟩, ⟨q0, q1, q2, q3, q4, q5, q6, q7, q8, q9, q10⟩, ⟨r0, r1, r2, r3, r4, r5, r6, r7, r8, r9, r10⟩, k6, grZ⟩ := store11 R.b1 (I r.why) (I r.n) (.slice va vn vc) (.slice a n c) (I r.node) (I r.kind) (I r.mode) (I r.uid) (I r.gid) (I r.links) (I r.size)
      obtain ⟨z0, z1, z2, z3, z4, z5, z6, z7, z8, z9, z10⟩ := cells11 k6
      have HE : Hid (Dq Y11 0 d' r.data ∧ Nq Y11 0 m' r.names ∧ Below w.heap.size w Y11 ∧ r.cs d' m' = #[I r.why, I r.n, .slice va vn vc, .slice a n c, I r.node, I r.kind, I r.mode, I r.uid, I r.gid, I r.links, I r.size]) := hide (by
        have kt : Kt w.heap.size wr Y11 := Kt.gr grZ (by omega) hb.size R.b1 (by decide) (by decide)
        have kt0 : Kt 0 wr Y11 := ⟨kt.be.mono (Nat.zero_le _), kt.ok⟩
        exact ⟨dq.kt kt0, nq.kt kt0, hb.trans kt.be, by rw [Rr.cs, ← hd', ← hm']⟩)
      clear k6 grZ hb dq nq hna hk2 hd' hm' R HR
      have hkn : ¬ (k : Int) < (k : Int) := by omega
      go_wp2_with fail
      exact bodyPost_ret (v := .agg #[I r.why, I r.n, .slice va vn vc, .slice a n c, I r.node, I r.kind, I r.mode, I r.uid, I r.gid, I r.links, I r.size]) (by simp [results, Try.results20, go_sem, z0, z1, z2, z3, z4, z5, z6, z7, z8, z9, z10]) rfl ⟨d', m', by rw [(unhide HE).2.2.2], (unhide HE).1, (unhide HE).2.1, (unhide HE).2.2.1⟩
end Go.Proofs.Ytlokihpegllddaa.Cl
