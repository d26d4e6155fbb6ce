/-
  What a walk is told of events and results that came in, and how long their parts are at most.
-/
import Derived.Test.YtlokihpegllddaaHE
import Derived.ProofKit
import Derived.OpenShut
import Derived.ChangeOld
import Derived.SizedLaws
import Derived.Deep.Slices
import Derived.SliceStrings
namespace Go.Proofs.Ytlokihpegllddaa.Cl
open Go.ChangeShapes Go.WideShapes Go.ChangeAt Go.RowKit Go.Deep

theorem spot_none' {w : World} {b off : Nat} {sp : Option Nat} {v : Value} (h : w.cell? ⟨b, off, sp⟩ = some v) : sp = none := by
  unfold World.cell? at h
  cases sp with
  | none => rfl
  | some s => cases hq : w.heap[b]? with
    | none => simp [hq] at h
    | some o => cases o <;> simp [hq] at h
theorem lt_of_cell {w : World} {b off : Nat} {v : Value} (h : w.cell? ⟨b, off, none⟩ = some v) : b < w.heap.size := by
  rcases Nat.lt_or_ge b w.heap.size with h1 | h1
  · exact h1
  · simp [World.cell?, Array.getElem?_eq_none h1] at h
theorem cells5 : Try.prog.cellsOf 5 = 1 := by kernel_rfl
theorem cells3 : Try.prog.cellsOf 3 = 1 := by kernel_rfl
theorem cellsS : Try.prog.cellsOf 9 = 1 := by kernel_rfl
theorem cellsB : Try.prog.cellsOf 26 = 1 := by kernel_rfl
theorem cellsC : Try.prog.cellsOf 28 = 9 := by kernel_rfl
theorem cellsE : Try.prog.cellsOf 23 = 1 := by kernel_rfl
theorem cellsN : Try.prog.cellsOf 29 = 1 := by kernel_rfl
theorem cellsT : Try.prog.cellsOf 31 = 7 := by kernel_rfl
theorem cellsR : Try.prog.cellsOf 33 = 11 := by kernel_rfl
theorem cellsV : Try.prog.cellsOf 35 = 22 := by kernel_rfl
theorem bytesOf5 : Try.prog.bytesOf 5 = 1 := by kernel_rfl
theorem bytesOf9 : Try.prog.bytesOf 9 = 16 := by kernel_rfl
theorem u8_of {n : Int} (h : (Lit.int .u8 n).wf = true) : 0 ≤ n ∧ n ≤ 255 := by
  simp [Lit.wf, IntKind.signed, IntKind.bits, IntKind.min, IntKind.max] at h
  omega
theorem str_list (s : ByteArray) : (.string s : Value) = S s.data.toList := by
  obtain ⟨a⟩ := s
  simp
theorem str_len (s : ByteArray) : s.data.toList.length = s.size := by
  obtain ⟨a⟩ := s
  exact Array.length_toList
theorem reach_eq : reachBytes = 140737488351232 := rfl
/-- No part of a reading is longer than may be. -/
def Wt {H : Type} (t : TypeId) (d : DataW H) : Prop := ∀ n ∈ d.weights Try.prog t, n ≤ reachBytes
theorem wt_arg {H : Type} {ts : List TypeId} {ds : List (DataW H)} (h : (DataW.weightsEach Try.prog ts ds).all (· ≤ reachBytes) = true) (j : Nat) {t : TypeId} {d : DataW H} (ht : ts[j]? = some t) (hd : ds[j]? = some d) : Wt t d := fun n hn => by
  have := List.all_eq_true.1 h n (DataW.weights_mem_each ht hd n hn)
  simpa using this
theorem wt_part {H : Type} {t : TypeId} {fs : Array Field} {parts : List (DataW H)} (hu : Try.prog.underlying t = some (.struct fs)) (h : Wt t (.agg parts)) (j : Nat) {t' : TypeId} {d : DataW H} (ht : (fs.toList.map (·.type))[j]? = some t') (hd : parts[j]? = some d) : Wt t' d := fun n hn =>
  h n (by simp only [DataW.weights, hu]; exact DataW.weights_mem_each ht hd n hn)
theorem weights_all {H : Type} {e : TypeId} {d : DataW H} {n : Nat} (hn : n ∈ d.weights Try.prog e) : ∀ {l : List (DataW H)}, d ∈ l → n ∈ DataW.weightsAll Try.prog e l
  | x :: l, hd => by
    simp only [DataW.weightsAll, List.mem_append]
    rcases List.mem_cons.1 hd with rfl | hd
    · exact .inl hn
    · exact .inr (weights_all hn hd)
theorem wt_slice {H : Type} {t e : TypeId} {elems spare : List (DataW H)} (hu : Try.prog.underlying t = some (.slice e)) (h : Wt t (.slice elems spare)) : elems.length * Try.prog.bytesOf e ≤ reachBytes ∧ ∀ d ∈ elems, Wt e d := by
  refine ⟨?_, fun d hd n hn => h n (by simp only [DataW.weights, hu]; exact List.mem_cons_of_mem _ (List.mem_append_left _ (weights_all hn hd)))⟩
  have h1 := h ((elems.length + spare.length) * Try.prog.bytesOf e) (by simp [DataW.weights, hu])
  exact Nat.le_trans (Nat.mul_le_mul_right _ (Nat.le_add_right _ _)) h1
theorem wt_str {H : Type} {t : TypeId} {l : List UInt8} (h : Wt t (.lit (.string l) : DataW H)) : l.length ≤ 140737488355328 := by
  have := h l.length (by simp [DataW.weights])
  rw [reach_eq] at this
  omega
/-- Bytes that came in. -/
theorem bytes_of {H : Type} {enc : TypeId × Value → H} {w : World} {held : Bool} {fuel : Nat} {v : Value} {x : DataW H × List MemPlace}
    (h : DataW.trod enc Try.prog w 0 (fun _ => true) held fuel 26 [v] = some x) (hw : Wt 26 x.1) : ∃ (s : Sl) (l : List UInt8), v = s.v ∧ Dq w w.heap.size s l ∧ l.length ≤ 140737488351232 := by
  rcases open_ints Try.underlying26 Try.underlying5 cells5 h with ⟨hcs, -⟩ | ⟨y, l, c, zs, hcs, _, hlc, hcm, hzl, hx, hzc, hwf⟩
  · simp at hcs
    exact ⟨sl0, [], hcs, Dq.nil _ _, by simp⟩
  · simp at hcs
    simp at hzl
    obtain ⟨yb, yo, ys⟩ := y
    have hlen : ((zs.take l).map fun z => UInt8.ofNat z.toNat).length = l := by simp; omega
    refine ⟨⟨some ⟨yb, yo, ys⟩, l, c⟩, (zs.take l).map fun z => UInt8.ofNat z.toNat, hcs, ⟨hlen.symm, hlc, hcm, ?_⟩, ?_⟩
    · intro k b hk
      have hkl : k < l := by
        have := (List.getElem?_eq_some_iff.1 hk).1
        omega
      have c0 := hzc 0 (by omega)
      have e0 : (⟨yb, yo, ys⟩ : Addr).add 0 = ⟨yb, yo, ys⟩ := rfl
      rw [e0] at c0
      obtain rfl := spot_none' c0
      have ck := hzc k (by omega)
      rw [addAt] at ck
      refine ⟨yb, yo, rfl, lt_of_cell ck, .inl (lt_of_cell ck), ?_⟩
      rw [ck]
      have hkz : k < zs.length := by omega
      have hw := u8_of (hwf zs[k] (List.getElem_mem hkz))
      have e1 : zs.getD k 0 = zs[k] := by simp [List.getD, hkz]
      have e2 : b = UInt8.ofNat zs[k].toNat := by
        rw [List.getElem?_map, List.getElem?_take_of_lt hkl, List.getElem?_eq_getElem hkz] at hk
        exact (Option.some.inj hk).symm
      rw [e1, e2, UInt8.toNat_ofNat']
      congr 2
      omega
    · rw [hx] at hw
      have h1 := (wt_slice Try.underlying26 hw).1
      rw [bytesOf5, reach_eq] at h1
      rw [hlen]
      simp [lits] at h1
      omega
theorem names_of {H : Type} {enc : TypeId × Value → H} {w : World} {held : Bool} {fuel : Nat} {v : Value} {x : DataW H × List MemPlace}
    (h : DataW.trod enc Try.prog w 0 (fun _ => true) held fuel 29 [v] = some x) (hw : Wt 29 x.1) : ∃ (s : Sl) (l : List (List UInt8)), v = s.v ∧ Nq w w.heap.size s l ∧ l.length * 16 ≤ 140737488351232 ∧ ∀ t ∈ l, t.length ≤ 140737488355328 := by
  rcases open_strings Try.underlying29 Try.underlying9 cellsS h with ⟨hcs, -⟩ | ⟨y, l, c, zs, hcs, _, hlc, hcm, hzl, hx, hzc, -⟩
  · simp at hcs
    exact ⟨sl0, [], hcs, Nq.nil _ _, by simp, fun t ht => by cases ht⟩
  · simp at hcs
    simp at hzl
    obtain ⟨yb, yo, ys⟩ := y
    have hlen : ((zs.take l).map fun s => s.data.toList).length = l := by simp; omega
    refine ⟨⟨some ⟨yb, yo, ys⟩, l, c⟩, (zs.take l).map fun s => s.data.toList, hcs, ⟨hlen.symm, hlc, hcm, ?_⟩, ?_⟩
    · intro k t hk
      have hkl : k < l := by
        have := (List.getElem?_eq_some_iff.1 hk).1
        omega
      have c0 := hzc 0 (by omega)
      have e0 : (⟨yb, yo, ys⟩ : Addr).add 0 = ⟨yb, yo, ys⟩ := rfl
      rw [e0] at c0
      obtain rfl := spot_none' c0
      have ck := hzc k (by omega)
      rw [addAt] at ck
      refine ⟨yb, yo, rfl, lt_of_cell ck, .inl (lt_of_cell ck), ?_⟩
      rw [ck]
      have hkz : k < zs.length := by omega
      have e1 : zs.getD k ByteArray.empty = zs[k] := by simp [List.getD, hkz]
      have e2 : t = zs[k].data.toList := by
        rw [List.getElem?_map, List.getElem?_take_of_lt hkl, List.getElem?_eq_getElem hkz] at hk
        exact (Option.some.inj hk).symm
      rw [e1, e2, str_list]
    · rw [hx] at hw
      obtain ⟨h1, h2⟩ := wt_slice Try.underlying29 hw
      rw [bytesOf9, reach_eq] at h1
      refine ⟨by rw [hlen]; simp [strs] at h1; omega, fun t ht => ?_⟩
      obtain ⟨s, hs, rfl⟩ := List.mem_map.1 ht
      exact wt_str (h2 _ (List.mem_map.2 ⟨s, hs, rfl⟩))
/-- What is told of a result that came in. -/
structure Ra (w : World) (x : Rr) (d m : Sl) : Prop where
  d : Dq w w.heap.size d x.data
  m : Nq w w.heap.size m x.names
  l : x.data.length ≤ 140737488351232
  n : x.names.length * 16 ≤ 140737488351232
  t : ∀ s ∈ x.names, s.length ≤ 140737488355328
set_option maxRecDepth 100000 in
theorem result_in {H : Type} {enc : TypeId × Value → H} {w : World} {held : Bool} {fuel : Nat} {v0 v1 v2 v3 v4 v5 v6 v7 v8 v9 v10 : Value} {x : DataW H × List MemPlace}
    (h : DataW.trod enc Try.prog w 0 (fun _ => true) held fuel 33 [v0, v1, v2, v3, v4, v5, v6, v7, v8, v9, v10] = some x) (hw : Wt 33 x.1) : ∃ (r : Rr) (d m : Sl), #[v0, v1, v2, v3, v4, v5, v6, v7, v8, v9, v10] = r.cs d m ∧ Ra w r d m := by
  obtain ⟨xs, k, hk, hxy, _, hxl, hf⟩ := DataW.trod_struct Try.underlying33 h
  match xs, hxl with
  | [y0, y1, y2, y3, y4], _ =>
    have g0 := hf 0 _ rfl
    have g1 := hf 1 _ rfl
    have g2 := hf 2 _ rfl
    have g3 := hf 3 _ rfl
    have g4 := hf 4 _ rfl
    simp [cells3, cellsB, cellsE, cellsN, cellsT] at g0 g1 g2 g3 g4
    rw [hxy] at hw
    have w2 := wt_part Try.underlying33 hw 2 rfl rfl
    have w3 := wt_part Try.underlying33 hw 3 rfl rfl
    obtain ⟨n0, e0, _, m0⟩ := DataW.trod_int Try.underlying23 g0
    obtain ⟨n1, e1, _, m1⟩ := DataW.trod_int Try.underlying3 g1
    obtain ⟨d, l, rfl, h1, h2⟩ := bytes_of g2 w2
    obtain ⟨m, ns, rfl, h3, h4, h5⟩ := names_of g3 w3
    obtain ⟨zs, k2, hk2, _, _, hzl, hz⟩ := DataW.trod_struct Try.underlying31 g4
    match zs, hzl with
    | [z0, z1, z2, z3, z4, z5, z6], _ =>
    have i0 := hz 0 _ rfl
    have i1 := hz 1 _ rfl
    have i2 := hz 2 _ rfl
    have i3 := hz 3 _ rfl
    have i4 := hz 4 _ rfl
    have i5 := hz 5 _ rfl
    have i6 := hz 6 _ rfl
    simp [cells3] at i0 i1 i2 i3 i4 i5 i6
    obtain ⟨p0, u0, _, w0⟩ := DataW.trod_int Try.underlying3 i0
    obtain ⟨p1, u1, _, w1⟩ := DataW.trod_int Try.underlying3 i1
    obtain ⟨p2, u2, _, w2⟩ := DataW.trod_int Try.underlying3 i2
    obtain ⟨p3, u3, _, w3⟩ := DataW.trod_int Try.underlying3 i3
    obtain ⟨p4, u4, _, w4⟩ := DataW.trod_int Try.underlying3 i4
    obtain ⟨p5, u5, _, w5⟩ := DataW.trod_int Try.underlying3 i5
    obtain ⟨p6, u6, _, w6⟩ := DataW.trod_int Try.underlying3 i6
    simp at e0 e1 u0 u1 u2 u3 u4 u5 u6
    subst e0 e1 u0 u1 u2 u3 u4 u5 u6
    exact ⟨⟨n0, n1, l, ns, p0, p1, p2, p3, p4, p5, p6⟩, d, m, rfl, h1, h3, h2, h4, h5⟩
set_option maxRecDepth 100000 in
theorem call_in {H : Type} {enc : TypeId × Value → H} {w : World} {held : Bool} {fuel : Nat} {v0 v1 v2 v3 v4 v5 v6 v7 v8 : Value} {x : DataW H × List MemPlace}
    (h : DataW.trod enc Try.prog w 0 (fun _ => true) held fuel 28 [v0, v1, v2, v3, v4, v5, v6, v7, v8] = some x) (hw : Wt 28 x.1) : ∃ (c : Cc) (d : Sl), #[v0, v1, v2, v3, v4, v5, v6, v7, v8] = c.cs d ∧ Dq w w.heap.size d c.data ∧ c.path.length ≤ 140737488355328 ∧ c.dst.length ≤ 140737488355328 ∧ c.data.length ≤ 140737488355328 := by
  obtain ⟨xs, k, hk, hxy, _, hxl, hf⟩ := DataW.trod_struct Try.underlying28 h
  match xs, hxl with
  | [y0, y1, y2, y3, y4, y5, y6, y7, y8], _ =>
    have g0 := hf 0 _ rfl
    have g1 := hf 1 _ rfl
    have g2 := hf 2 _ rfl
    have g3 := hf 3 _ rfl
    have g4 := hf 4 _ rfl
    have g5 := hf 5 _ rfl
    have g6 := hf 6 _ rfl
    have g7 := hf 7 _ rfl
    have g8 := hf 8 _ rfl
    simp [cells3, cellsS, cellsB] at g0 g1 g2 g3 g4 g5 g6 g7 g8
    rw [hxy] at hw
    have w1 := wt_part Try.underlying28 hw 1 rfl rfl
    have w2 := wt_part Try.underlying28 hw 2 rfl rfl
    have w8 := wt_part Try.underlying28 hw 8 rfl rfl
    obtain ⟨n0, e0, _, m0⟩ := DataW.trod_int Try.underlying3 g0
    obtain ⟨t1, e1, d1, m1⟩ := DataW.trod_string Try.underlying9 g1
    obtain ⟨t2, e2, d2, m2⟩ := DataW.trod_string Try.underlying9 g2
    obtain ⟨n3, e3, _, m3⟩ := DataW.trod_int Try.underlying3 g3
    obtain ⟨n4, e4, _, m4⟩ := DataW.trod_int Try.underlying3 g4
    obtain ⟨n5, e5, _, m5⟩ := DataW.trod_int Try.underlying3 g5
    obtain ⟨n6, e6, _, m6⟩ := DataW.trod_int Try.underlying3 g6
    obtain ⟨n7, e7, _, m7⟩ := DataW.trod_int Try.underlying3 g7
    obtain ⟨d, l, rfl, h1, h2⟩ := bytes_of g8 w8
    simp at e0 e1 e2 e3 e4 e5 e6 e7
    subst e0 e1 e2 e3 e4 e5 e6 e7
    rw [d1] at w1
    rw [d2] at w2
    refine ⟨⟨n0, t1.data.toList, t2.data.toList, n3, n4, n5, n6, n7, l⟩, d, ?_, h1, wt_str w1, wt_str w2, by simp only; omega⟩
    rw [str_list t1, str_list t2]
set_option maxRecDepth 100000 in
theorem event_in {H : Type} {enc : TypeId × Value → H} {w : World} {held : Bool} {fuel : Nat} {cs' : List Value} (hl : cs'.length = 22) {x : DataW H × List MemPlace}
    (h : DataW.trod enc Try.prog w 0 (fun _ => true) held fuel 35 cs' = some x) (hw : Wt 35 x.1) : ∃ e : Em, cs'.toArray = e.cs ∧ Eg w w.heap.size e ∧ Sm e := by
  obtain ⟨xs, k, hk, hxy, _, hxl, hf⟩ := DataW.trod_struct Try.underlying35 h
  match xs, hxl, cs', hl with
  | [y0, y1, y2, y3], _, [v0, v1, v2, v3, v4, v5, v6, v7, v8, v9, v10, v11, v12, v13, v14, v15, v16, v17, v18, v19, v20, v21], _ =>
    have g0 := hf 0 _ rfl
    have g1 := hf 1 _ rfl
    have g2 := hf 2 _ rfl
    have g3 := hf 3 _ rfl
    simp [cells3, cellsC, cellsR] at g0 g1 g2 g3
    rw [hxy] at hw
    have w2 := wt_part Try.underlying35 hw 2 rfl rfl
    have w3 := wt_part Try.underlying35 hw 3 rfl rfl
    obtain ⟨n0, e0, _, m0⟩ := DataW.trod_int Try.underlying3 g0
    obtain ⟨n1, e1, _, m1⟩ := DataW.trod_int Try.underlying3 g1
    obtain ⟨c, d, hc, h1, h2, h3, h4⟩ := call_in g2 w2
    obtain ⟨r, rd, rn, hr, hra⟩ := result_in g3 w3
    simp at e0 e1
    subst e0 e1
    refine ⟨⟨⟨n0, n1, c, r⟩, d, rd, rn⟩, ?_, ⟨h1, hra.d, hra.m⟩, ⟨h2, h3, h4, by have := hra.l; simp only; omega, by have := hra.n; simp only; omega, hra.t⟩⟩
    simp only [Cc.cs, Rr.cs, Array.mk.injEq, List.cons.injEq, and_true] at hc hr
    obtain ⟨rfl, rfl, rfl, rfl, rfl, rfl, rfl, rfl, rfl⟩ := hc
    obtain ⟨rfl, rfl, rfl, rfl, rfl, rfl, rfl, rfl, rfl, rfl, rfl⟩ := hr
    rfl
theorem add_add (b : Addr) (i j : Nat) : (b.add i).add j = b.add (i + j) := by
  unfold Addr.add
  by_cases hi : i = 0
  · subst hi; simp
  · by_cases hj : j = 0
    · subst hj; simp [hi]
    · simp [hi, hj, Nat.add_assoc]
theorem list_of {α : Type} {P : Nat → α → Prop} (n : Nat) (h : ∀ i, i < n → ∃ p, P i p) : ∃ ps : List α, ps.length = n ∧ ∀ i p, ps[i]? = some p → P i p := by
  induction n with
  | zero => exact ⟨[], rfl, fun i p h => by simp at h⟩
  | succ n ih =>
    obtain ⟨ps, h1, h2⟩ := ih fun i hi => h i (by omega)
    obtain ⟨p, hp⟩ := h n (by omega)
    refine ⟨ps ++ [p], by simp [h1], fun i q hq => ?_⟩
    rcases Nat.lt_or_ge i ps.length with hi | hi
    · rw [List.getElem?_append_left hi] at hq
      exact h2 i q hq
    · rw [List.getElem?_append_right hi] at hq
      cases hk : i - ps.length with
      | zero =>
        rw [hk] at hq
        simp at hq
        subst hq
        obtain rfl : i = n := by omega
        exact hp
      | succ k => rw [hk] at hq; simp at hq
set_option maxHeartbeats 1000000 in
theorem events_of {H : Type} {enc : TypeId × Value → H} {w : World} {held : Bool} {fuel : Nat} {a : Option Addr} {len cap : Nat} {x : DataW H × List MemPlace}
    (h : DataW.trod enc Try.prog w 0 (fun _ => true) held fuel 36 [.slice a len cap] = some x) (hw : Wt 36 x.1) : ∃ es : List Em, len = es.length ∧ Es w w.heap.size a es ∧ len ≤ cap ∧ cap ≤ maxLen ∧ (∀ x ∈ es, Sm x) ∧ (∀ x, a = some x → x.spot = none ∨ len = 0) := by
  rcases open_slice Try.underlying36 h with ⟨hcs, _⟩ | ⟨y, l, c, m, n, D, Pl, hcs, _, hl, hm, hmm, hx2, hx⟩
  · simp at hcs
    obtain ⟨rfl, rfl, rfl⟩ := hcs
    exact ⟨[], rfl, Es.nil _ _ _, Nat.le_refl _, Nat.zero_le _, (fun x hx => by cases hx), (fun x hx => by cases hx)⟩
  · simp at hcs
    obtain ⟨rfl, rfl, rfl⟩ := hcs
    rw [hx2] at hw
    have hwe := (wt_slice Try.underlying36 hw).2
    have key : ∀ i, i < len → ∃ p : Em, (∀ j v, p.cs[j]? = some v → w.cell? (y.add (i * 22 + j)) = some v) ∧ Eg w w.heap.size p ∧ Sm p := by
      intro i hi
      obtain ⟨cs', h1, h2⟩ := hx i (by simp at hmm; omega)
      rw [cellsV] at h1
      obtain ⟨_, hlen, hcell⟩ := World.cells?_some h1
      obtain ⟨e, he, hg, hs⟩ := event_in hlen h2 (hwe _ (List.mem_map.2 ⟨i, List.mem_range.2 hi, rfl⟩))
      refine ⟨e, fun j v hj => ?_, hg, hs⟩
      have hj22 : j < 22 := by
        have := (Array.getElem?_eq_some_iff.1 hj).1
        simpa [Em.cs] using this
      have hq := hcell j hj22
      rw [add_add] at hq
      rw [hq, ← hj, ← he]
      simp
    obtain ⟨es, h1, h2⟩ := list_of len key
    have hsp : 0 < len → y.spot = none := fun hp => by
      obtain ⟨b, off, sp⟩ := y
      obtain ⟨g3, -⟩ := h2 0 (es[0]'(by omega)) (List.getElem?_eq_getElem _)
      have c0 := g3 0 _ rfl
      have e : (⟨b, off, sp⟩ : Addr).add (0 * 22 + 0) = ⟨b, off, sp⟩ := rfl
      rw [e] at c0
      exact spot_none' c0
    refine ⟨es, h1.symm, fun k p hk => ?_, hl, hm, fun p hp => ?_, fun x hx => ?_⟩
    · obtain ⟨g1, g2, -⟩ := h2 k p hk
      have hp := hsp (by have := (List.getElem?_eq_some_iff.1 hk).1; omega)
      obtain ⟨b, off, sp⟩ := y
      simp only at hp
      subst hp
      have c1 := g1 0 _ rfl
      rw [addAt] at c1
      exact ⟨b, off, rfl, lt_of_cell c1, fun j v hj => by
        have := g1 j v hj
        rw [addAt] at this
        rw [Nat.add_assoc]
        exact this, g2⟩
    · obtain ⟨k, hk, rfl⟩ := List.getElem_of_mem hp
      exact (h2 k _ (List.getElem?_eq_getElem hk)).2.2
    · obtain rfl := Option.some.inj hx
      rcases Nat.eq_zero_or_pos len with h | h
      · exact .inr h
      · exact .inl (hsp h)
theorem result_of {H : Type} {enc : TypeId × Value → H} {w : World} {r : Reach} {base : Nat} {held : Bool} {v : Value} {d : DataW H} {ps : List MemPlace}
    (hv : Value.okWide Try.prog w r base 33 v) (h : DataW.Trod enc Try.prog w 0 (fun _ => true) held 33 v d ps) (hw : Wt 33 d) : ∃ (x : Rr) (sd sm : Sl), v = .agg (x.cs sd sm) ∧ Ra w x sd sm := by
  obtain ⟨cs, rfl, hs⟩ := okWide_struct Try.underlying33 hv
  rw [cellsR] at hs
  obtain ⟨fuel, hf⟩ := h
  match cs, hs with
  | ⟨[v0, v1, v2, v3, v4, v5, v6, v7, v8, v9, v10]⟩, _ =>
    obtain ⟨x, sd, sm, h1, h2⟩ := result_in (x := (d, ps)) (by simpa [Value.cells] using hf) hw
    exact ⟨x, sd, sm, by rw [← h1], h2⟩
end Go.Proofs.Ytlokihpegllddaa.Cl
