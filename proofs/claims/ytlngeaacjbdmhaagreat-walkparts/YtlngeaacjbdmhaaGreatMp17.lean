/-
  The document's own tree: its calls told of a tree T.
-/
import Derived.Test.YtlngeaacjbdmhaaGreatMp16
import Derived.Test.YtlngeaacjbdmhaaGreatMp08
set_option maxRecDepth 100000
namespace Go.Proofs.YtlngeaacjbdmhaaGreat.Rf
open Go.RowKit Go.Maps
section
variable {lo N : Nat} {W W' : World} {r : Nat} {T : Tr} {uv : Int → Int} {B : Nat}
theorem Dq.below (h : Dq lo N W r T) (g : Below W.heap.size W W') : Dq lo N W' r T := by
  obtain ⟨p, Lv, nb, ev, uv, h, hu⟩ := h
  exact ⟨p, Lv, nb, ev, uv, h.below g, hu⟩
theorem Dq.keep (h : Dq lo N W r T) (hs : W.heap.size ≤ W'.heap.size) (hk : ∀ (b : Nat) (cs : Array Value) (t : TypeId) (f : Nat × Nat), W.heap[b]? = some (.cells cs t f) → rty t → W'.heap[b]? = W.heap[b]?) : Dq lo N W' r T := by
  obtain ⟨p, Lv, nb, ev, uv, h, hu⟩ := h
  exact ⟨p, Lv, nb, ev, uv, h.keep hs hk, hu⟩
theorem Dq.bds (h : Dq lo N W r T) : lo ≤ W.heap.size ∧ lo ≤ r ∧ r < W.heap.size := by
  obtain ⟨p, Lv, nb, ev, uv, h, hu⟩ := h
  exact ⟨h.bd.2.1, h.bd.1, lt_of_heap h.ht⟩
theorem De.below (h : De lo N W W' r T) {V : World} (g : Below W'.heap.size W' V) : De lo N W V r T := ⟨h.1.below g, h.2.trans (Rx.of_below g h.1.bds.1)⟩
theorem De.trans {V : World} {T' : Tr} (h : De lo N W W' r T) (g : De lo N W' V r T') : De lo N W V r T' := ⟨g.1, h.2.trans g.2⟩
theorem Uq.node (hu : Uq T uv) {n : Int} {x y : Nd} (hx : T.nd n = some x) (hk : y.kind = x.kind) (hn : y.names = x.names) (hp : y.up = x.up) : Uq (T.set n (some y)) uv := by
  intro k z hz
  obtain ⟨z1, z2⟩ := Tr.dir_some.1 hz
  by_cases e : k = n
  · subst e
    rw [Tr.set_same] at z1
    cases z1
    have h2 : T.dir k = some x := Tr.dir_some.2 ⟨hx, by rw [← hk]; exact z2⟩
    rw [hu k x h2, Tr.up, Tr.up, hz, h2]
    simp [hn, hp]
  · rw [Tr.set_other _ _ e] at z1
    have h2 : T.dir k = some z := Tr.dir_some.2 ⟨z1, z2⟩
    rw [hu k z h2, Tr.up, Tr.up, hz, h2]
theorem dHold_D (hq : Dq lo N W r T) (hw : Wk B T) (hB : B ≤ 890) (n : Int) (hn : (kl n).wf = true) :
    Calls Tryz.prog 71 #[P0 r, I n] W fun e w' => e = .returned (I (T.holdE n)) ∧ De lo N W w' r (T.hold n) := by
  obtain ⟨p, Lv, nb, ev, uv, h, hu⟩ := hq
  refine (dHold_any h hw hB n hn).mono ?_
  rintro e w' ⟨h1, h2, h3⟩
  refine ⟨h1, ⟨p, Lv, nb, ev, uv, h2, ?_⟩, h3⟩
  unfold Tr.hold
  cases hx : T.nd n with
  | none => exact hu
  | some x => exact hu.node hx rfl rfl rfl
theorem dSetMode_D (hq : Dq lo N W r T) (hw : Wk B T) (hB : B ≤ 900) (n : Int) (hn : (kl n).wf = true) (mode : Int) :
    Calls Tryz.prog 41 #[P0 r, I n, I mode] W fun e w' => e = .returned (I (setE T n)) ∧ De lo N W w' r (T.setMode n mode) := by
  obtain ⟨p, Lv, nb, ev, uv, h, hu⟩ := hq
  refine (dSetMode_any h hw hB n hn mode).mono ?_
  rintro e w' ⟨h1, h2, h3⟩
  refine ⟨h1, ⟨p, Lv, nb, ev, uv, h2, ?_⟩, h3⟩
  unfold Tr.setMode
  cases hx : T.nd n with
  | none => exact hu
  | some x => exact hu.node hx rfl rfl rfl
theorem dSetOwner_D (hq : Dq lo N W r T) (hw : Wk B T) (hB : B ≤ 900) (n : Int) (hn : (kl n).wf = true) (uid gid : Int) :
    Calls Tryz.prog 75 #[P0 r, I n, I uid, I gid] W fun e w' => e = .returned (I (setE T n)) ∧ De lo N W w' r (T.setOwner n uid gid) := by
  obtain ⟨p, Lv, nb, ev, uv, h, hu⟩ := hq
  refine (dSetOwner_any h hw hB n hn uid gid).mono ?_
  rintro e w' ⟨h1, h2, h3⟩
  refine ⟨h1, ⟨p, Lv, nb, ev, uv, h2, ?_⟩, h3⟩
  unfold Tr.setOwner
  cases hx : T.nd n with
  | none => exact hu
  | some x => exact hu.node hx rfl rfl rfl
theorem Uq.give (hu : Uq T uv) (hw : Wf B T) {dir n : Int} {d x : Nd} {s : ByteArray} (hd : T.nd dir = some d) (hdk : d.kind = 1) (hdn : 0 < d.names) (hx : T.nd n = some x) (hxk : x.kind ≠ 1) (hs : getE d.ins s = none) (hz : s.size ≤ 255) : Uq (T.give dir s n) uv := by
  obtain ⟨-, h2⟩ := hw.give hd hdk hdn hx hxk hs hz
  intro k z hz
  rw [h2 k]
  obtain ⟨z1, z2⟩ := Tr.dir_some.1 hz
  rw [Tr.give_nd hd hx s k] at z1
  by_cases e : k = n
  · rw [if_pos e] at z1
    cases z1
    exact absurd z2 hxk
  · rw [if_neg e] at z1
    by_cases e2 : k = dir
    · subst e2
      exact hu k d (Tr.dir_some.2 ⟨hd, hdk⟩)
    · rw [if_neg e2] at z1
      exact hu k z (Tr.dir_some.2 ⟨z1, z2⟩)
theorem dJoin_D (hq : Dq lo N W r T) (hw : Wf B T) (hB : B ≤ 890) (dir n : Int) (s : ByteArray) (hd : (kl dir).wf = true) (hn : (kl n).wf = true) (hs : s.size ≤ 100000) (h16 : ∀ y, T.nd n = some y → y.kind ≠ 1 → y.names ≤ 16) :
    Calls Tryz.prog 67 #[P0 r, I dir, .string s, I n] W fun e w' => e = .returned (I (T.joinE dir s n)) ∧ De lo N W w' r (T.join dir s n) := by
  obtain ⟨p, Lv, nb, ev, uv, h, hu⟩ := hq
  refine (dJoin_any h hw.k hB dir n s hd hn hs h16 (fun y hy => by
    obtain ⟨x, h1, h2, -⟩ := hw.root
    rw [hy] at h1
    cases h1
    exact h2)).mono ?_
  rintro e w' ⟨h1, ev', h2, h3⟩
  refine ⟨h1, ⟨p, Lv, nb, ev', uv, h2, ?_⟩, h3⟩
  by_cases hj : T.joinE dir s n = 0
  · obtain ⟨d, x, g1, g2, g3, g4, g5, g6, g7⟩ := Tr.joinE0 hj
    rw [Tr.join, if_pos hj]
    exact hu.give hw g1 g2 g7 g3 g4 g6 (right_size g5)
  · rw [Tr.join, if_neg hj]
    exact hu
end
end Go.Proofs.YtlngeaacjbdmhaaGreat.Rf

namespace Go.Proofs.YtlngeaacjbdmhaaGreat.Rf
open Go.RowKit Go.Maps
attribute [local go_sem ↓] Go.wp_at_zero Go.wp_at_succ
theorem sev {X : World} {b base : Nat} {t : TypeId} {a0 a1 a2 a3 a4 a5 a6 : Value} (h : X.heap[b]? = some (.cells #[a0, a1, a2, a3, a4, a5, a6] t)) (hb : base ≤ b) (v0 v1 v2 v3 v4 v5 v6 : Value) :
    ∃ Y, ((((((X.setCell ⟨b, 0, none⟩ v0).setCell ⟨b, 1, none⟩ v1).setCell ⟨b, 2, none⟩ v2).setCell ⟨b, 3, none⟩ v3).setCell ⟨b, 4, none⟩ v4).setCell ⟨b, 5, none⟩ v5).setCell ⟨b, 6, none⟩ v6 = Y ∧ Y.heap[b]? = some (.cells #[v0, v1, v2, v3, v4, v5, v6] t) ∧ Below base X Y :=
  ⟨_, rfl, by rw [heap_set (heap_set (heap_set (heap_set (heap_set (heap_set (heap_set h 0 _) 1 _) 2 _) 3 _) 4 _) 5 _) 6 _]; rfl, (((((((Below.refl base X).setCell (p := ⟨b, 0, none⟩) hb v0).setCell (p := ⟨b, 1, none⟩) hb v1).setCell (p := ⟨b, 2, none⟩) hb v2).setCell (p := ⟨b, 3, none⟩) hb v3).setCell (p := ⟨b, 4, none⟩) hb v4).setCell (p := ⟨b, 5, none⟩) hb v5).setCell (p := ⟨b, 6, none⟩) hb v6⟩
section
variable {lo N : Nat} {W W' : World} {r : Nat} {T : Tr} {p : Nat} {Lv : Value} {nb : Int → Nat} {ev : Int → Value} {uv : Int → Int} {B : Nat}
set_option maxHeartbeats 1000000 in
theorem dStat_none (h : DtI lo N W r T p Lv nb ev uv) (hw : Wf B T) (hB : B ≤ 890) (n : Int) (hn : (kl n).wf = true) (hx : T.nd n = none) :
    Calls Tryz.prog 88 #[P0 r, I n] W fun e w' => e = .returned (.tuple #[stat0, .bool false]) ∧ Below W.heap.size W w' := by
  have HA := hide (fun V (g : Below W.heap.size W V) => at_any (h.below g) hw.k (by omega) n hn (.pointer none) (by rw [atV, hx]))
  clear h hw
  unfold stat0
  go_enter Tryz.func88, Tryz.ntmps88
  go_wp2_with fail
  obtain ⟨V, hV, hR, hB1⟩ : ∃ V, V = W.alloc (Obj.cells #[Value.int IntKind.i64 0, Value.int IntKind.i64 0, Value.int IntKind.i64 0, Value.int IntKind.i64 0, Value.int IntKind.i64 0, Value.int IntKind.i64 0, Value.int IntKind.i64 0] 33) ∧ V.heap[W.heap.size]? = some (Obj.cells #[Value.int IntKind.i64 0, Value.int IntKind.i64 0, Value.int IntKind.i64 0, Value.int IntKind.i64 0, Value.int IntKind.i64 0, Value.int IntKind.i64 0, Value.int IntKind.i64 0] 33) ∧ Below W.heap.size W V := ⟨_, rfl, putAll _ _ rfl, (Below.refl _ _).alloc (Nat.le_refl _) _⟩
  rw [← hV]
  clear hV
  refine (unhide HA V hB1).mono ?_
  rintro e w1 ⟨rfl, hw1⟩
  rw [hw1]
  clear hw1
  obtain ⟨r0, r1, r2, r3, r4, r5, r6, rf⟩ := cells7 hR
  have HB := hide hB1
  have HR := hide hR
  clear HA hB1 hR
  go_wp2_with fail
  obtain ⟨Y, hY, hY1, hY2⟩ := sev (base := W.heap.size) (unhide HR) (Nat.le_refl _) (I 0) (I 0) (I 0) (I 0) (I 0) (I 0) (I 0)
  rw [hY]
  obtain ⟨x0, x1, x2, x3, x4, x5, x6, xf⟩ := cells7 hY1
  refine bodyPost_ret (v := .tuple #[.agg #[I 0, I 0, I 0, I 0, I 0, I 0, I 0], .bool false]) ?_ rfl ?_
  · rw [results_cell_tmp rfl]
    go_simp
  · exact ⟨rfl, (unhide HB).trans hY2⟩
set_option maxHeartbeats 1000000 in
theorem dStat_some (h : DtI lo N W r T p Lv nb ev uv) (hw : Wf B T) (hB : B ≤ 890) (n : Int) (hn : (kl n).wf = true) {x : Nd} (hx : T.nd n = some x) :
    Calls Tryz.prog 88 #[P0 r, I n] W fun e w' => e = .returned (.tuple #[T.statV n x, .bool true]) ∧ Below W.heap.size W w' := by
  have HA := hide (fun V (g : Below W.heap.size W V) => at_any (h.below g) hw.k (by omega) n hn (P0 (nb n)) (by rw [atV, hx]))
  obtain ⟨L, hL⟩ : ∃ L : Nat, T.links x = L := ⟨_, rfl⟩
  have HLK := hide (fun V (g : Below W.heap.size W V) => links_any (h.below g) hw.k (by omega) hn hx (fun e => by
    subst e
    obtain ⟨y, h1, h2, -⟩ := hw.root
    rw [hx] at h1
    cases h1
    exact h2) L hL)
  have hfw : (kl x.file).wf = true := wf_of (by have := hw.k.fil n x hx; omega)
  have HSZ := hide (fun V (g : Below W.heap.size W V) => Rb.rsize_any (h.below g).pl x.file hfw (by have := hw.k.pol; omega))
  have hb := (h.hn n x hx).1
  obtain ⟨a, cap, hev⟩ := own_form (h.hn n x hx).2
  have hkn := hw.k.knd n x hx
  have htx := hw.k.txt n x hx
  have hil := (hw.k.bnd n x hx).2.2
  have hrt := h.ht
  obtain ⟨mo, hmo⟩ : ∃ mo, mo = x.mode := ⟨_, rfl⟩
  unfold Tr.statV
  rw [hL]
  obtain ⟨Z, hZ⟩ : ∃ Z : Nat, T.size x = Z := ⟨_, rfl⟩
  rw [hZ]
  unfold Tr.size at hZ
  clear h hw
  generalize nb n = b at *
  go_enter Tryz.func88, Tryz.ntmps88
  go_wp2_with fail
  obtain ⟨V, hV, hR, hB1⟩ : ∃ V, V = W.alloc (Obj.cells #[Value.int IntKind.i64 0, Value.int IntKind.i64 0, Value.int IntKind.i64 0, Value.int IntKind.i64 0, Value.int IntKind.i64 0, Value.int IntKind.i64 0, Value.int IntKind.i64 0] 33) ∧ V.heap[W.heap.size]? = some (Obj.cells #[Value.int IntKind.i64 0, Value.int IntKind.i64 0, Value.int IntKind.i64 0, Value.int IntKind.i64 0, Value.int IntKind.i64 0, Value.int IntKind.i64 0, Value.int IntKind.i64 0] 33) ∧ Below W.heap.size W V := ⟨_, rfl, putAll _ _ rfl, (Below.refl _ _).alloc (Nat.le_refl _) _⟩
  rw [← hV]
  clear hV
  refine (unhide HA V hB1).mono ?_
  rintro e w1 ⟨rfl, hw1⟩
  rw [hw1]
  clear hw1
  obtain ⟨c0, c1, c2, c3, c4, c5, c6, c7, c8, c9, c10, c11, c12, cf⟩ := dcells ((hB1.block _ (lt_of_heap hb)).trans hb)
  go_wp2_with fail
  obtain ⟨V2, hV2, hS2, hB2⟩ : ∃ V2, V2 = V.alloc (Obj.cells #[Value.int IntKind.i64 n, Value.int IntKind.i64 x.kind, Value.int IntKind.i64 x.mode, Value.int IntKind.i64 x.uid, Value.int IntKind.i64 x.gid, Value.int IntKind.i64 0, Value.int IntKind.i64 0] 33) ∧ V2.heap[V.heap.size]? = some (Obj.cells #[Value.int IntKind.i64 n, Value.int IntKind.i64 x.kind, Value.int IntKind.i64 x.mode, Value.int IntKind.i64 x.uid, Value.int IntKind.i64 x.gid, Value.int IntKind.i64 0, Value.int IntKind.i64 0] 33) ∧ Below V.heap.size V V2 := ⟨_, rfl, putAll _ _ rfl, (Below.refl _ _).alloc (Nat.le_refl _) _⟩
  rw [← hV2]
  clear hV2
  have hB12 : Below W.heap.size W V2 := hB1.trans (hB2.mono hB1.size)
  refine (unhide HLK V2 hB12).mono ?_
  rintro e w1 ⟨rfl, hw1⟩
  rw [hw1]
  clear hw1
  have hRS : W.heap.size < V.heap.size := lt_of_heap hR
  have hbW := lt_of_heap hb
  have hrW := lt_of_heap hrt
  obtain ⟨X1, hX1⟩ : ∃ X1, V2.setCell ⟨V.heap.size, 5, none⟩ (I (L : Int)) = X1 := ⟨_, rfl⟩
  have hX1c : X1.heap[V.heap.size]? = some (.cells #[I n, I x.kind, I x.mode, I x.uid, I x.gid, I (L : Int), I 0] 33) := by rw [← hX1, heap_set hS2]; rfl
  have hX1B : Below W.heap.size W X1 := by rw [← hX1]; exact hB12.setCell (p := ⟨V.heap.size, 5, none⟩) (by show W.heap.size ≤ V.heap.size; omega) _
  have hX1R : X1.heap[W.heap.size]? = some (Obj.cells #[Value.int IntKind.i64 0, Value.int IntKind.i64 0, Value.int IntKind.i64 0, Value.int IntKind.i64 0, Value.int IntKind.i64 0, Value.int IntKind.i64 0, Value.int IntKind.i64 0] 33) := by
    rw [← hX1, Below.heap_setCell _ _ _ _ (show W.heap.size ≠ V.heap.size by omega), hB2.block _ hRS]
    exact hR
  have FIN : Hid (∀ X1', Below X1.heap.size X1 X1' → ∃ X2, X1'.setCell ⟨V.heap.size, 6, none⟩ (I (Z : Int)) = X2 ∧ X2.heap[V.heap.size]? = some (.cells #[I n, I x.kind, I x.mode, I x.uid, I x.gid, I (L : Int), I (Z : Int)] 33) ∧ ∃ Y, ((((((X2.setCell ⟨W.heap.size, 0, none⟩ (I n)).setCell ⟨W.heap.size, 1, none⟩ (I x.kind)).setCell ⟨W.heap.size, 2, none⟩ (I x.mode)).setCell ⟨W.heap.size, 3, none⟩ (I x.uid)).setCell ⟨W.heap.size, 4, none⟩ (I x.gid)).setCell ⟨W.heap.size, 5, none⟩ (I (L : Int))).setCell ⟨W.heap.size, 6, none⟩ (I (Z : Int)) = Y ∧ Y.heap[W.heap.size]? = some (.cells #[I n, I x.kind, I x.mode, I x.uid, I x.gid, I (L : Int), I (Z : Int)] 33) ∧ Below W.heap.size W Y ∧ X2.heap[W.heap.size]? = some (Obj.cells #[Value.int IntKind.i64 0, Value.int IntKind.i64 0, Value.int IntKind.i64 0, Value.int IntKind.i64 0, Value.int IntKind.i64 0, Value.int IntKind.i64 0, Value.int IntKind.i64 0] 33)) := hide fun X1' hB' => by
    have k1 : X1'.heap[V.heap.size]? = _ := (hB'.block _ (lt_of_heap hX1c)).trans hX1c
    have k2 : X1'.heap[W.heap.size]? = _ := (hB'.block _ (lt_of_heap hX1R)).trans hX1R
    have k3 : (X1'.setCell ⟨V.heap.size, 6, none⟩ (I (Z : Int))).heap[W.heap.size]? = _ := (Below.heap_setCell _ _ _ _ (show W.heap.size ≠ V.heap.size by omega)).trans k2
    obtain ⟨Y, y1, y2, y3⟩ := sev (base := W.heap.size) k3 (Nat.le_refl _) (I n) (I x.kind) (I x.mode) (I x.uid) (I x.gid) (I (L : Int)) (I (Z : Int))
    exact ⟨_, rfl, by rw [heap_set k1]; rfl, Y, y1, y2, ((hX1B.trans (hB'.mono hX1B.size)).setCell (p := ⟨V.heap.size, 6, none⟩) (by show W.heap.size ≤ V.heap.size; omega) _).trans y3, k3⟩
  obtain ⟨g0, g1, g2, g3, g4, g5, g6, gf⟩ := cells7 hX1c
  obtain ⟨-, -, -, -, -, -, -, c7', c8', -, -, -, c12', -⟩ := dcells ((hX1B.block _ hbW).trans hb)
  have q1 : X1.cell? ⟨r, 1, none⟩ = some (P0 p) := by rw [cell_of ((hX1B.block _ hrW).trans hrt)]; rfl
  have s5 : V2.cell? ⟨V.heap.size, 5, none⟩ = some (I 0) := by rw [cell_of hS2]; rfl
  have sf5 : V2.frozen? ⟨V.heap.size, 5, none⟩ = false := frozen_of hS2 5
  rw [hev] at c8'
  have HSX := hide (unhide HSZ X1 hX1B)
  have HSXd := hide (unhide HSZ X1.drew (below_drew hX1B))
  have hkk : x.kind = 1 ∨ x.kind = 2 ∨ x.kind = 3 := by omega
  generalize hkd : x.kind = kd at *
  clear HA HLK HSZ hB12 hB1 hB2 hS2 hX1c hX1B hX1R hR hb hrt c0 c1 c2 c3 c4 c5 c6 c7 c8 c9 c10 c11 c12 cf hkn
  rcases hkk with rfl | rfl | rfl
  · rw [if_neg (by decide), if_neg (by decide)] at hZ
    rw [hZ] at c8' hil
    obtain ⟨X2, hx2, h2, Y, hy, hyc, hyB, h2R⟩ := unhide FIN X1 (Below.refl _ _)
    obtain ⟨f0, f1, f2, f3, f4, f5, f6, ff⟩ := cells7 h2
    obtain ⟨t0, t1, t2, t3, t4, t5, t6, tf⟩ := cells7 h2R
    have HYC := hide hyc
    have HYB := hide hyB
    clear hyc hyB h2 h2R FIN
    go_wp2_with fail
    refine bodyPost_ret (v := .tuple #[.agg #[I n, I 1, I x.mode, I x.uid, I x.gid, I (L : Int), I (Z : Int)], .bool true]) ?_ rfl ?_
    · rw [results_cell_tmp rfl]
      obtain ⟨e0, e1, e2, e3, e4, e5, e6, ef⟩ := cells7 (unhide HYC)
      go_simp
    · exact ⟨by rw [hkd], unhide HYB⟩
  · rw [if_pos rfl] at hZ
    rw [hZ] at HSX HSXd
    obtain ⟨X2, hx2, h2, Y, hy, hyc, hyB, h2R⟩ := unhide FIN X1.drew (below_drew (Below.refl _ _))
    obtain ⟨f0, f1, f2, f3, f4, f5, f6, ff⟩ := cells7 h2
    obtain ⟨t0, t1, t2, t3, t4, t5, t6, tf⟩ := cells7 h2R
    have HYC := hide hyc
    have HYB := hide hyB
    clear hyc hyB h2 h2R FIN
    go_wp2_with fail
    have q2 : X2.cell? ⟨r, 1, none⟩ = some (P0 p) := by
      rw [← hx2]
      exact (World.cell?_of_block (a := ⟨r, 1, none⟩) (Below.heap_setCell _ _ _ _ (show r ≠ V.heap.size by omega))).trans q1
    have q3 : X2.cell? ⟨b, 12, none⟩ = some (I x.file) := by
      rw [← hx2]
      exact (World.cell?_of_block (a := ⟨b, 12, none⟩) (Below.heap_setCell _ _ _ _ (show b ≠ V.heap.size by omega))).trans c12'
    go_region_held3 (fun w' => w'.cell? ⟨r, 1, none⟩ = some (P0 p) ∧ w'.cell? ⟨b, 12, none⟩ = some (I x.file)) (go_keep) ((go_at_call 145; refine (unhide HSXd).mono ?_; rintro e w2 ⟨rfl, hw2⟩; rw [hw2]; clear hw2))
    go_wp2_with fail
    refine bodyPost_ret (v := .tuple #[.agg #[I n, I 2, I x.mode, I x.uid, I x.gid, I (L : Int), I (Z : Int)], .bool true]) ?_ rfl ?_
    · rw [results_cell_tmp rfl]
      obtain ⟨e0, e1, e2, e3, e4, e5, e6, ef⟩ := cells7 (unhide HYC)
      go_simp
    · exact ⟨by rw [hkd], unhide HYB⟩
  · rw [if_neg (by decide), if_pos rfl] at hZ
    subst hZ
    obtain ⟨X2, hx2, h2, Y, hy, hyc, hyB, h2R⟩ := unhide FIN X1 (Below.refl _ _)
    obtain ⟨f0, f1, f2, f3, f4, f5, f6, ff⟩ := cells7 h2
    obtain ⟨t0, t1, t2, t3, t4, t5, t6, tf⟩ := cells7 h2R
    have HYC := hide hyc
    have HYB := hide hyB
    clear hyc hyB h2 h2R FIN
    go_wp2_with fail
    refine bodyPost_ret (v := .tuple #[.agg #[I n, I 3, I x.mode, I x.uid, I x.gid, I (L : Int), I (x.text.size : Int)], .bool true]) ?_ rfl ?_
    · rw [results_cell_tmp rfl]
      obtain ⟨e0, e1, e2, e3, e4, e5, e6, ef⟩ := cells7 (unhide HYC)
      go_simp
    · exact ⟨by rw [hkd], unhide HYB⟩
end
end Go.Proofs.YtlngeaacjbdmhaaGreat.Rf

namespace Go.Proofs.YtlngeaacjbdmhaaGreat.Rf
open Go.RowKit Go.Maps
attribute [local go_sem ↓] Go.wp_at_zero Go.wp_at_succ
section
variable {lo N : Nat} {W W' : World} {r : Nat} {T : Tr} {p : Nat} {Lv : Value} {nb : Int → Nat} {ev : Int → Value} {uv : Int → Int} {B : Nat}
set_option maxHeartbeats 4000000 in
theorem dMake_no (h : DtI lo N W r T p Lv nb ev uv) (hw : Wf B T) (hB : B ≤ 890) (dir : Int) (s : ByteArray) (hd : (kl dir).wf = true) (hs : s.size ≤ 100000) (sn kd mo ui gi li si : Int) (text : ByteArray) (q : Int) (hq : T.makeE dir s kd text = q) (hq0 : q ≠ 0) (h16 : ∀ x, T.nd dir = some x → T.links x ≤ 16) :
    Calls Tryz.prog 65 #[P0 r, I dir, .string s, .agg #[I sn, I kd, I mo, I ui, I gi, I li, I si], .string text] W fun e w' => e = .returned (.tuple #[I 0, I q]) ∧ Below W.heap.size W w' := by
  obtain ⟨V, hV, hS, hB1⟩ : ∃ V, W.alloc (.cells #[I sn, I kd, I mo, I ui, I gi, I li, I si] 33) = V ∧ V.heap[W.heap.size]? = some (.cells #[I sn, I kd, I mo, I ui, I gi, I li, I si] 33) ∧ Below W.heap.size W V := ⟨_, rfl, putAll _ _ rfl, (Below.refl _ _).alloc (Nat.le_refl _) _⟩
  obtain ⟨vd, hvd⟩ : ∃ v, dirV T nb dir = v := ⟨_, rfl⟩
  have HD := hide (dir_any (h.below hB1) hw.k (by omega) dir hd vd hvd)
  have HQ := hide (r7_any s hs V)
  obtain ⟨s0, s1, s2, s3, s4, s5, s6, sf⟩ := cells7 hS
  have HB := hide hB1
  cases hx : T.dir dir with
  | none =>
    obtain rfl : q = 1 := by rw [← hq]; simp [Tr.makeE, hx]
    rw [dirV, hx] at hvd
    subst hvd
    clear h hw hB1 hS hq
    go_enter Tryz.func65, Tryz.ntmps65
    go_wp2_with (first
      | (go_at_call 81; refine (unhide HD).mono ?_; rintro e w1 ⟨rfl, hw1⟩; rw [hw1]; clear hw1)
      | (go_at_call 126; refine (unhide HQ).mono ?_; rintro e w1 ⟨rfl, hw1⟩; rw [hw1]; clear hw1)
      | (go_at_call 127; refine (unhide HFi).mono ?_; rintro e w1 ⟨rfl, hw1⟩; rw [hw1]; clear hw1)
      | (go_at_call 128; refine (unhide HG).mono ?_; rintro e w1 ⟨rfl, hw1⟩; rw [hw1]; clear hw1)
      | (go_at_call 129; refine (unhide HK).mono ?_; rintro e w1 ⟨rfl, hw1⟩; rw [hw1]; clear hw1)
      | (go_at_call 87; refine (unhide HLf).mono ?_; rintro e w1 ⟨rfl, HB2⟩))
    go_ret2
    exact ⟨rfl, unhide HB⟩
  | some x =>
    rw [dirV, hx] at hvd
    subst hvd
    have hxn := (Tr.dir_some.1 hx).1
    have hxk := (Tr.dir_some.1 hx).2
    cases hrs : right s with
    | false =>
      obtain rfl : q = 1 := by rw [← hq]; simp [Tr.makeE, hx, hrs]
      rw [hrs] at HQ
      clear h hw hB1 hS hq
      go_enter Tryz.func65, Tryz.ntmps65
      go_wp2_with (first
        | (go_at_call 81; refine (unhide HD).mono ?_; rintro e w1 ⟨rfl, hw1⟩; rw [hw1]; clear hw1)
        | (go_at_call 126; refine (unhide HQ).mono ?_; rintro e w1 ⟨rfl, hw1⟩; rw [hw1]; clear hw1)
        | (go_at_call 127; refine (unhide HFi).mono ?_; rintro e w1 ⟨rfl, hw1⟩; rw [hw1]; clear hw1)
        | (go_at_call 128; refine (unhide HG).mono ?_; rintro e w1 ⟨rfl, hw1⟩; rw [hw1]; clear hw1)
        | (go_at_call 129; refine (unhide HK).mono ?_; rintro e w1 ⟨rfl, hw1⟩; rw [hw1]; clear hw1)
        | (go_at_call 87; refine (unhide HLf).mono ?_; rintro e w1 ⟨rfl, HB2⟩))
      go_ret2
      exact ⟨rfl, unhide HB⟩
    | true =>
      rw [hrs] at HQ
      by_cases hk1 : kd < 1
      · obtain rfl : q = 1 := by
          rw [← hq]
          have : fitsB kd text = false := by unfold fitsB; rw [if_neg (by omega)]; simp; omega
          simp [Tr.makeE, hx, hrs, this]
        clear h hw hB1 hS hq
        go_enter Tryz.func65, Tryz.ntmps65
        go_wp2_with (first
          | (go_at_call 81; refine (unhide HD).mono ?_; rintro e w1 ⟨rfl, hw1⟩; rw [hw1]; clear hw1)
          | (go_at_call 126; refine (unhide HQ).mono ?_; rintro e w1 ⟨rfl, hw1⟩; rw [hw1]; clear hw1)
          | (go_at_call 127; refine (unhide HFi).mono ?_; rintro e w1 ⟨rfl, hw1⟩; rw [hw1]; clear hw1)
          | (go_at_call 128; refine (unhide HG).mono ?_; rintro e w1 ⟨rfl, hw1⟩; rw [hw1]; clear hw1)
          | (go_at_call 129; refine (unhide HK).mono ?_; rintro e w1 ⟨rfl, hw1⟩; rw [hw1]; clear hw1)
          | (go_at_call 87; refine (unhide HLf).mono ?_; rintro e w1 ⟨rfl, HB2⟩))
        go_ret2
        exact ⟨rfl, unhide HB⟩
      · by_cases hk3 : 3 < kd
        · obtain rfl : q = 1 := by
            rw [← hq]
            have : fitsB kd text = false := by unfold fitsB; rw [if_neg (by omega)]; simp; omega
            simp [Tr.makeE, hx, hrs, this]
          clear h hw hB1 hS hq
          go_enter Tryz.func65, Tryz.ntmps65
          go_wp2_with (first
            | (go_at_call 81; refine (unhide HD).mono ?_; rintro e w1 ⟨rfl, hw1⟩; rw [hw1]; clear hw1)
            | (go_at_call 126; refine (unhide HQ).mono ?_; rintro e w1 ⟨rfl, hw1⟩; rw [hw1]; clear hw1)
            | (go_at_call 127; refine (unhide HFi).mono ?_; rintro e w1 ⟨rfl, hw1⟩; rw [hw1]; clear hw1)
            | (go_at_call 128; refine (unhide HG).mono ?_; rintro e w1 ⟨rfl, hw1⟩; rw [hw1]; clear hw1)
            | (go_at_call 129; refine (unhide HK).mono ?_; rintro e w1 ⟨rfl, hw1⟩; rw [hw1]; clear hw1)
            | (go_at_call 87; refine (unhide HLf).mono ?_; rintro e w1 ⟨rfl, HB2⟩))
          go_ret2
          exact ⟨rfl, unhide HB⟩
        · have hkk : kd = 1 ∨ kd = 2 ∨ kd = 3 := by omega
          by_cases ht : text = ⟨#[]⟩ ∨ kd = 3
          · have hfit : fitsB kd text = true := by
              unfold fitsB
              rcases hkk with rfl | rfl | rfl
              · simpa using ht
              · simpa using ht
              · simp
            have hl := (hw.k.bnd dir x hxn).2.2
            by_cases ht1 : text = ⟨#[]⟩
            · subst ht1
              have hV1 := (h.below hB1).hn dir x hxn
              cases hg : getE x.ins s with
              | some z =>
                obtain rfl : q = 35 := by rw [← hq]; simp [Tr.makeE, hx, hrs, hfit, refusesE, hg]
                have HFi := hide (find_any hV1.1 hV1.2 (hw.k.srt dir x hxn) (by omega) s (pos x.ins s : Int) (by rw [idx, hg]))
                generalize pos x.ins s = ps at *
                have g0 : (0 : Int) ≤ (ps : Int) := by omega
                clear h hw hB1 hS hq hV1
                go_enter Tryz.func65, Tryz.ntmps65
                go_wp2_with (first
                  | (go_at_call 81; refine (unhide HD).mono ?_; rintro e w1 ⟨rfl, hw1⟩; rw [hw1]; clear hw1)
                  | (go_at_call 126; refine (unhide HQ).mono ?_; rintro e w1 ⟨rfl, hw1⟩; rw [hw1]; clear hw1)
                  | (go_at_call 127; refine (unhide HFi).mono ?_; rintro e w1 ⟨rfl, hw1⟩; rw [hw1]; clear hw1)
                  | (go_at_call 128; refine (unhide HG).mono ?_; rintro e w1 ⟨rfl, hw1⟩; rw [hw1]; clear hw1)
                  | (go_at_call 129; refine (unhide HK).mono ?_; rintro e w1 ⟨rfl, hw1⟩; rw [hw1]; clear hw1)
                  | (go_at_call 87; refine (unhide HLf).mono ?_; rintro e w1 ⟨rfl, HB2⟩))
                go_ret2
                exact ⟨rfl, unhide HB⟩
              | none =>
                have HFi := hide (find_any hV1.1 hV1.2 (hw.k.srt dir x hxn) (by omega) s (-1) (by rw [idx, hg]))
                by_cases hnm : x.names = 0
                · obtain rfl : q = 32 := by rw [← hq]; simp [Tr.makeE, hx, hrs, hfit, refusesE, hg, hnm]
                  have HG := hide (gone_any (h.below hB1) hw.k (by omega) hd hxn true (by simp [hnm]))
                  clear h hw hB1 hS hq hV1
                  go_enter Tryz.func65, Tryz.ntmps65
                  go_wp2_with (first
                    | (go_at_call 81; refine (unhide HD).mono ?_; rintro e w1 ⟨rfl, hw1⟩; rw [hw1]; clear hw1)
                    | (go_at_call 126; refine (unhide HQ).mono ?_; rintro e w1 ⟨rfl, hw1⟩; rw [hw1]; clear hw1)
                    | (go_at_call 127; refine (unhide HFi).mono ?_; rintro e w1 ⟨rfl, hw1⟩; rw [hw1]; clear hw1)
                    | (go_at_call 128; refine (unhide HG).mono ?_; rintro e w1 ⟨rfl, hw1⟩; rw [hw1]; clear hw1)
                    | (go_at_call 129; refine (unhide HK).mono ?_; rintro e w1 ⟨rfl, hw1⟩; rw [hw1]; clear hw1)
                    | (go_at_call 87; refine (unhide HLf).mono ?_; rintro e w1 ⟨rfl, HB2⟩))
                  go_ret2
                  exact ⟨rfl, unhide HB⟩
                · have HG := hide (gone_any (h.below hB1) hw.k (by omega) hd hxn false (by simp [hnm]))
                  have HK := hide (links_any (h.below hB1) hw.k (by omega) hd hxn (fun _ => hxk) (T.links x) rfl)
                  have HLf := hide (dLeft_any (h.below hB1) hw.k (by omega) (by have := hw.k.mst; omega))
                  have hl16 := h16 x hxn
                  have hBs := hB1.size
                  by_cases h44 : kd = 1 ∧ T.links x = 16
                  · obtain rfl : q = 44 := by rw [← hq]; simp [Tr.makeE, hx, hrs, refusesE, hg, hnm, h44, fitsB]
                    rw [h44.2] at HK
                    have hk11 := h44.1
                    subst hk11
                    clear h hw hB1 hS hq hV1 HLf
                    go_enter Tryz.func65, Tryz.ntmps65
                    go_wp2_with (first
                      | (go_at_call 81; refine (unhide HD).mono ?_; rintro e w1 ⟨rfl, hw1⟩; rw [hw1]; clear hw1)
                      | (go_at_call 126; refine (unhide HQ).mono ?_; rintro e w1 ⟨rfl, hw1⟩; rw [hw1]; clear hw1)
                      | (go_at_call 127; refine (unhide HFi).mono ?_; rintro e w1 ⟨rfl, hw1⟩; rw [hw1]; clear hw1)
                      | (go_at_call 128; refine (unhide HG).mono ?_; rintro e w1 ⟨rfl, hw1⟩; rw [hw1]; clear hw1)
                      | (go_at_call 129; refine (unhide HK).mono ?_; rintro e w1 ⟨rfl, hw1⟩; rw [hw1]; clear hw1)
                      | (go_at_call 87; refine (unhide HLf).mono ?_; rintro e w1 ⟨rfl, HB2⟩))
                    go_ret2
                    exact ⟨rfl, unhide HB⟩
                  · have hlf : T.left = 0 := by
                      by_cases e : T.left = 0
                      · exact e
                      · exact absurd (by rw [← hq]; simp [Tr.makeE, hx, hrs, hfit, refusesE, hg, hnm, h44, e]) hq0
                    obtain rfl : q = 43 := by rw [← hq]; simp [Tr.makeE, hx, hrs, hfit, refusesE, hg, hnm, h44, hlf]
                    rw [hlf] at HLf
                    generalize T.links x = lk at *
                    by_cases hk11 : kd = 1
                    · subst hk11
                      have g16 : ¬ (16 : Int) ≤ (lk : Int) := by omega
                      clear h hw hB1 hS hq hV1
                      go_enter Tryz.func65, Tryz.ntmps65
                      go_wp2_with (first
                        | (go_at_call 81; refine (unhide HD).mono ?_; rintro e w1 ⟨rfl, hw1⟩; rw [hw1]; clear hw1)
                        | (go_at_call 126; refine (unhide HQ).mono ?_; rintro e w1 ⟨rfl, hw1⟩; rw [hw1]; clear hw1)
                        | (go_at_call 127; refine (unhide HFi).mono ?_; rintro e w1 ⟨rfl, hw1⟩; rw [hw1]; clear hw1)
                        | (go_at_call 128; refine (unhide HG).mono ?_; rintro e w1 ⟨rfl, hw1⟩; rw [hw1]; clear hw1)
                        | (go_at_call 129; refine (unhide HK).mono ?_; rintro e w1 ⟨rfl, hw1⟩; rw [hw1]; clear hw1)
                        | (go_at_call 87; refine (unhide HLf).mono ?_; rintro e w1 ⟨rfl, HB2⟩))
                      go_ret2
                      exact ⟨rfl, (unhide HB).trans (HB2.mono hBs)⟩
                    · have hk12 : (kd == 1) = false := by simpa using hk11
                      clear h hw hB1 hS hq hV1
                      go_enter Tryz.func65, Tryz.ntmps65
                      go_wp2_with (first
                        | (go_at_call 81; refine (unhide HD).mono ?_; rintro e w1 ⟨rfl, hw1⟩; rw [hw1]; clear hw1)
                        | (go_at_call 126; refine (unhide HQ).mono ?_; rintro e w1 ⟨rfl, hw1⟩; rw [hw1]; clear hw1)
                        | (go_at_call 127; refine (unhide HFi).mono ?_; rintro e w1 ⟨rfl, hw1⟩; rw [hw1]; clear hw1)
                        | (go_at_call 128; refine (unhide HG).mono ?_; rintro e w1 ⟨rfl, hw1⟩; rw [hw1]; clear hw1)
                        | (go_at_call 129; refine (unhide HK).mono ?_; rintro e w1 ⟨rfl, hw1⟩; rw [hw1]; clear hw1)
                        | (go_at_call 87; refine (unhide HLf).mono ?_; rintro e w1 ⟨rfl, HB2⟩))
                      go_ret2
                      exact ⟨rfl, (unhide HB).trans (HB2.mono hBs)⟩
            · obtain rfl : kd = 3 := ht.resolve_left ht1
              have ht5 : ¬ text.toList = [] := fun e => by
                rw [ByteArray.toList_eq] at e
                exact ht1 (ByteArray.ext (Array.ext' e))
              have ht4 : (text.toList == ([] : List UInt8)) = false := by rw [beq_eq_false_iff_ne]; exact ht5
              have ht6 : (text.toList != ([] : List UInt8)) = true := by rw [bne_iff_ne]; exact ht5
              have ht7 : text.toList.isEmpty = false := by simpa using ht5
              have hV1 := (h.below hB1).hn dir x hxn
              cases hg : getE x.ins s with
              | some z =>
                obtain rfl : q = 35 := by rw [← hq]; simp [Tr.makeE, hx, hrs, hfit, refusesE, hg]
                have HFi := hide (find_any hV1.1 hV1.2 (hw.k.srt dir x hxn) (by omega) s (pos x.ins s : Int) (by rw [idx, hg]))
                generalize pos x.ins s = ps at *
                have g0 : (0 : Int) ≤ (ps : Int) := by omega
                clear h hw hB1 hS hq hV1
                go_enter Tryz.func65, Tryz.ntmps65
                go_wp2_with (first
                  | (go_at_call 81; refine (unhide HD).mono ?_; rintro e w1 ⟨rfl, hw1⟩; rw [hw1]; clear hw1)
                  | (go_at_call 126; refine (unhide HQ).mono ?_; rintro e w1 ⟨rfl, hw1⟩; rw [hw1]; clear hw1)
                  | (go_at_call 127; refine (unhide HFi).mono ?_; rintro e w1 ⟨rfl, hw1⟩; rw [hw1]; clear hw1)
                  | (go_at_call 128; refine (unhide HG).mono ?_; rintro e w1 ⟨rfl, hw1⟩; rw [hw1]; clear hw1)
                  | (go_at_call 129; refine (unhide HK).mono ?_; rintro e w1 ⟨rfl, hw1⟩; rw [hw1]; clear hw1)
                  | (go_at_call 87; refine (unhide HLf).mono ?_; rintro e w1 ⟨rfl, HB2⟩))
                go_ret2
                exact ⟨rfl, unhide HB⟩
              | none =>
                have HFi := hide (find_any hV1.1 hV1.2 (hw.k.srt dir x hxn) (by omega) s (-1) (by rw [idx, hg]))
                by_cases hnm : x.names = 0
                · obtain rfl : q = 32 := by rw [← hq]; simp [Tr.makeE, hx, hrs, hfit, refusesE, hg, hnm]
                  have HG := hide (gone_any (h.below hB1) hw.k (by omega) hd hxn true (by simp [hnm]))
                  clear h hw hB1 hS hq hV1
                  go_enter Tryz.func65, Tryz.ntmps65
                  go_wp2_with (first
                    | (go_at_call 81; refine (unhide HD).mono ?_; rintro e w1 ⟨rfl, hw1⟩; rw [hw1]; clear hw1)
                    | (go_at_call 126; refine (unhide HQ).mono ?_; rintro e w1 ⟨rfl, hw1⟩; rw [hw1]; clear hw1)
                    | (go_at_call 127; refine (unhide HFi).mono ?_; rintro e w1 ⟨rfl, hw1⟩; rw [hw1]; clear hw1)
                    | (go_at_call 128; refine (unhide HG).mono ?_; rintro e w1 ⟨rfl, hw1⟩; rw [hw1]; clear hw1)
                    | (go_at_call 129; refine (unhide HK).mono ?_; rintro e w1 ⟨rfl, hw1⟩; rw [hw1]; clear hw1)
                    | (go_at_call 87; refine (unhide HLf).mono ?_; rintro e w1 ⟨rfl, HB2⟩))
                  go_ret2
                  exact ⟨rfl, unhide HB⟩
                · have HG := hide (gone_any (h.below hB1) hw.k (by omega) hd hxn false (by simp [hnm]))
                  have HK := hide (links_any (h.below hB1) hw.k (by omega) hd hxn (fun _ => hxk) (T.links x) rfl)
                  have HLf := hide (dLeft_any (h.below hB1) hw.k (by omega) (by have := hw.k.mst; omega))
                  have hl16 := h16 x hxn
                  have hBs := hB1.size
                  by_cases h44 : (3 : Int) = 1 ∧ T.links x = 16
                  · exact absurd h44.1 (by decide)
                  · have hlf : T.left = 0 := by
                      by_cases e : T.left = 0
                      · exact e
                      · exact absurd (by rw [← hq]; simp [Tr.makeE, hx, hrs, hfit, refusesE, hg, hnm, e]) hq0
                    obtain rfl : q = 43 := by rw [← hq]; simp [Tr.makeE, hx, hrs, hfit, refusesE, hg, hnm, hlf]
                    rw [hlf] at HLf
                    generalize T.links x = lk at *
                    clear h hw hB1 hS hq hV1
                    go_enter Tryz.func65, Tryz.ntmps65
                    go_wp2_with (first
                      | (go_at_call 81; refine (unhide HD).mono ?_; rintro e w1 ⟨rfl, hw1⟩; rw [hw1]; clear hw1)
                      | (go_at_call 126; refine (unhide HQ).mono ?_; rintro e w1 ⟨rfl, hw1⟩; rw [hw1]; clear hw1)
                      | (go_at_call 127; refine (unhide HFi).mono ?_; rintro e w1 ⟨rfl, hw1⟩; rw [hw1]; clear hw1)
                      | (go_at_call 128; refine (unhide HG).mono ?_; rintro e w1 ⟨rfl, hw1⟩; rw [hw1]; clear hw1)
                      | (go_at_call 129; refine (unhide HK).mono ?_; rintro e w1 ⟨rfl, hw1⟩; rw [hw1]; clear hw1)
                      | (go_at_call 87; refine (unhide HLf).mono ?_; rintro e w1 ⟨rfl, HB2⟩))
                    go_ret2
                    exact ⟨rfl, (unhide HB).trans (HB2.mono hBs)⟩
          · obtain rfl : q = 1 := by
              rw [← hq]
              have : fitsB kd text = false := by
                unfold fitsB
                rw [if_pos (by omega)]
                simpa using fun e => ht (.inl e)
              simp [Tr.makeE, hx, hrs, this]
            have ht1 : ¬ text = ⟨#[]⟩ := fun e => ht (.inl e)
            have ht2 : ¬ kd = 3 := fun e => ht (.inr e)
            have ht3 : (kd != 3) = true := by simpa using ht2
            have ht5 : ¬ text.toList = [] := fun e => by
              rw [ByteArray.toList_eq] at e
              exact ht1 (ByteArray.ext (Array.ext' e))
            have ht4 : (text.toList == ([] : List UInt8)) = false := by rw [beq_eq_false_iff_ne]; exact ht5
            have ht6 : (text.toList != ([] : List UInt8)) = true := by rw [bne_iff_ne]; exact ht5
            have ht7 : text.toList.isEmpty = false := by simpa using ht5
            clear h hw hB1 hS hq
            go_enter Tryz.func65, Tryz.ntmps65
            go_wp2_with (first
              | (go_at_call 81; refine (unhide HD).mono ?_; rintro e w1 ⟨rfl, hw1⟩; rw [hw1]; clear hw1)
              | (go_at_call 126; refine (unhide HQ).mono ?_; rintro e w1 ⟨rfl, hw1⟩; rw [hw1]; clear hw1)
              | (go_at_call 127; refine (unhide HFi).mono ?_; rintro e w1 ⟨rfl, hw1⟩; rw [hw1]; clear hw1)
              | (go_at_call 128; refine (unhide HG).mono ?_; rintro e w1 ⟨rfl, hw1⟩; rw [hw1]; clear hw1)
              | (go_at_call 129; refine (unhide HK).mono ?_; rintro e w1 ⟨rfl, hw1⟩; rw [hw1]; clear hw1)
              | (go_at_call 87; refine (unhide HLf).mono ?_; rintro e w1 ⟨rfl, HB2⟩))
            go_ret2
            exact ⟨rfl, unhide HB⟩
end
end Go.Proofs.YtlngeaacjbdmhaaGreat.Rf

namespace Go.Proofs.YtlngeaacjbdmhaaGreat.Rf
open Go.RowKit Go.Maps
attribute [local go_sem ↓] Go.wp_at_zero Go.wp_at_succ
theorem infoPR : (Tryz.prog.info? 136).map (fun i => (i.zero, i.size, i.bytes)) = some (some (.pointer none), 1, 8) := by kernel_rfl
set_option maxHeartbeats 1000000 in
theorem dNew_any (nodes blocks : Nat) (hn : 1 ≤ nodes ∧ nodes ≤ 64) (hb : blocks ≤ 256) (w : World) :
    Calls Tryz.prog 17 #[I (nodes : Int), I (blocks : Int)] w fun e w' => ∃ r, e = .returned (.tuple #[P0 r, I 0]) ∧ Dq w.heap.size blocks w' r (Tr.new nodes blocks) ∧ Below w.heap.size w w' := by
  have HP := hide (fun w => Rb.rnew_any blocks blocks w)
  have k1 : ¬ ((nodes : Int) < 1) := by omega
  have k2 : ¬ ((64 : Int) < (nodes : Int)) := by omega
  have k3 : ¬ ((blocks : Int) < 0) := by omega
  have k4 : ¬ ((256 : Int) < (blocks : Int)) := by omega
  go_enter Tryz.func17, Tryz.ntmps17
  go_wp2_with fail
  refine (unhide HP w).mono ?_
  rintro e w1 ⟨rfl, hq, hbl⟩
  obtain ⟨A, hA, hAs, hA1, hAB⟩ : ∃ A, w1.alloc (.cells #[I (nodes : Int), P0 w.heap.size, .slice none 0 0] 135) = A ∧ A.heap.size = w1.heap.size + 1 ∧ A.heap[w1.heap.size]? = some (.cells #[I (nodes : Int), P0 w.heap.size, .slice none 0 0] 135) ∧ Below w1.heap.size w1 A := ⟨_, rfl, by simp, putAll _ _ rfl, (Below.refl _ _).alloc (Nat.le_refl _) _⟩
  obtain ⟨D, hD, hDs, hD1, hDB⟩ : ∃ D, A.alloc (.cells #[.int .i64 1, .int .i64 1, .int .i64 493, .int .i64 0, .int .i64 0, .int .i64 0, .int .i64 0, .string ⟨#[]⟩, .slice none 0 0, .int .i64 1, .int .i64 0, .int .i64 0, .int .i64 0] 139) = D ∧ D.heap.size = A.heap.size + 1 ∧ D.heap[A.heap.size]? = some (.cells #[.int .i64 1, .int .i64 1, .int .i64 493, .int .i64 0, .int .i64 0, .int .i64 0, .int .i64 0, .string ⟨#[]⟩, .slice none 0 0, .int .i64 1, .int .i64 0, .int .i64 0, .int .i64 0] 139) ∧ Below A.heap.size A D := ⟨_, rfl, by simp, putAll _ _ rfl, (Below.refl _ _).alloc (Nat.le_refl _) _⟩
  obtain ⟨i0, hi, hz0, hz1, hz2⟩ := info_parts infoPR
  obtain ⟨v', X, hrun, own1, hgr, -, -⟩ := run_append_own_at (P := Tryz.prog) (D.alloc (.cells #[P0 A.heap.size] 136)) w1.heap.size 133 133 136 i0 (.pointer none) 1 8 Tryz.underlying133 hi hz0 hz1 hz2 rfl (by decide) (.slice none 0 0) 0 [] (World.ownsRow_nil _ _ _ _) ⟨D.heap.size, 0, none⟩ 1 1 [P0 A.heap.size] rfl (Nm.cell_one_new D _ _) (by intro u hu; simp at hu; subst hu; rfl) (by unfold maxLen; omega) (by omega) (by simp; omega)
  have hXB : Below D.heap.size D X := ((Below.refl _ D).alloc (Nat.le_refl _) _).trans ⟨hgr.os, hgr.tape, hgr.output, hgr.size, fun j hj => hgr.block j (by simp; omega) (by simp [Value.ownBlock])⟩
  have hX1 : X.heap[w1.heap.size]? = some (.cells #[I (nodes : Int), P0 w.heap.size, .slice none 0 0] 135) := ((hXB.block _ (by omega)).trans (hDB.block _ (by omega))).trans hA1
  have x2 : X.cell? ⟨w1.heap.size, 2, none⟩ = some (.slice none 0 0) := by rw [cell_of hX1]; rfl
  have xf : X.frozen? ⟨w1.heap.size, 2, none⟩ = false := frozen_of hX1 2
  have a2 : A.cell? ⟨w1.heap.size, 2, none⟩ = some (.slice none 0 0) := by rw [cell_of hA1]; rfl
  have HF : Hid (Dq w.heap.size blocks (X.setCell ⟨w1.heap.size, 2, none⟩ v') w1.heap.size (Tr.new nodes blocks) ∧ Below w.heap.size w (X.setCell ⟨w1.heap.size, 2, none⟩ v')) := by
    have hsz := hbl.size
    have hB1 : Below w1.heap.size w1 X := (hAB.trans (hDB.mono (by omega))).trans (hXB.mono (by omega))
    have hset : ∀ j, j ≠ w1.heap.size → (X.setCell ⟨w1.heap.size, 2, none⟩ v').heap[j]? = X.heap[j]? := fun j hj => Below.heap_setCell _ _ _ _ hj
    have hBl : Below w1.heap.size w1 (X.setCell ⟨w1.heap.size, 2, none⟩ v') := hB1.setCell (p := ⟨w1.heap.size, 2, none⟩) (Nat.le_refl _) _
    have hnd : ∀ k x, (Tr.new nodes blocks).nd k = some x → k = 1 ∧ x = ⟨1, 493, 0, 0, 1, 0, 1, [], 0, ⟨#[]⟩⟩ := fun k x hk => by
      simp only [Tr.new] at hk
      split at hk
      · cases hk
        exact ⟨by assumption, rfl⟩
      · cases hk
    refine ⟨⟨w.heap.size, v', fun _ => A.heap.size, fun _ => .slice none 0 0, fun _ => 1, ⟨by rw [heap_set hX1]; rfl, ?_, fun k x hk => ?_, fun j k x y hj hk hjk => absurd ((hnd j x hj).1.trans (hnd k y hk).1.symm) hjk, ?_, ⟨hsz, Nat.le_trans hsz hBl.size, fun k x _ => by omega⟩⟩, fun k x hk => ?_⟩, hbl.trans (hBl.mono hsz)⟩
    · have e : dptrs (Tr.new nodes blocks) (fun _ => A.heap.size) = [P0 A.heap.size] := rfl
      rw [e]
      refine own_base (own_keep (s := 1) (n := 1) own1 fun j cur hc => hset j ?_) hsz
      rintro rfl
      rw [hX1] at hc
      simp at hc
    · obtain ⟨rfl, rfl⟩ := hnd k x hk
      refine ⟨?_, World.ownsRow_nil _ _ _ _⟩
      rw [hset _ (by omega), hXB.block _ (by omega), hD1]
      rfl
    · obtain ⟨L, fb, bv, hp⟩ := hq
      exact Rb.Rq.mono ⟨L, fb, bv, hp.keep hBl.size fun b cs ty f e _ => hBl.block b (lt_of_heap e)⟩ hBl.size (Nat.le_refl _)
    · obtain ⟨rfl, -⟩ := hnd k x (Tr.dir_some.1 hk).1
      rfl
  obtain ⟨a', c', hv'⟩ := own_form own1
  subst hv'
  have HA := hide hAs
  clear hq hbl hAs hA1 hAB hDs hD1 hDB own1 hgr hXB hX1
  go_wp2_with (at_builtin; refine wpList_append_eq rfl _ _ 133 rfl 133 rfl _ _ rfl rfl _ _ hrun ?_)
  go_ret2
  exact ⟨_, rfl, unhide HF⟩
end Go.Proofs.YtlngeaacjbdmhaaGreat.Rf

namespace Go.Proofs.YtlngeaacjbdmhaaGreat.Rf
open Go.RowKit Go.Maps
section
variable {lo N : Nat} {W W' : World} {r : Nat} {T : Tr} {p : Nat} {Lv : Value} {nb : Int → Nat} {ev : Int → Value} {uv : Int → Int} {B : Nat}
def Tr.more (T : Tr) (x : Nd) : Tr := { T with made := T.made + 1, nd := fun k => if k = (T.made : Int) + 1 then some x else T.nd k }
theorem DtI.more (h : DtI lo N W r T p Lv nb ev uv) (hw : Wk B T) {x : Nd} {c : Nat} {u : Int} {cv : Value} (hc : W.heap[c]? = some (.cells (dnC ((T.made : Int) + 1) x u cv) 139)) (hcl : lo ≤ c) (hcn : ∀ k y, T.nd k = some y → nb k ≠ c) (hcv : Dr lo W cv x.ins)
    {v' : Value} {X : World} {o : Obj} (own1 : X.ownsRow lo 136 1 v' (T.made + 1) (dptrs T nb ++ [P0 c])) (hgr : (W.alloc o).grownBy X Lv.ownBlock) :
    DtI lo N (X.setCell ⟨r, 2, none⟩ v') r (Tr.more T x) p v' (fun k => if k = (T.made : Int) + 1 then c else nb k) (fun k => if k = (T.made : Int) + 1 then cv else ev k) (fun k => if k = (T.made : Int) + 1 then u else uv k) ∧ Rx lo W (X.setCell ⟨r, 2, none⟩ v') := by
  have hLb : ∀ g, Lv.ownBlock = some g → lo ≤ g ∧ ∃ cur, W.heap[g]? = some (.cells cur 136) := fun g hg => Rb.own_blk h.hL hg
  have hsz : W.heap.size ≤ X.heap.size := by have := hgr.size; simp at this; omega
  have hX : ∀ (b : Nat) (cs : Array Value) (t : TypeId) (f : Nat × Nat), W.heap[b]? = some (.cells cs t f) → t ≠ 136 → X.heap[b]? = W.heap[b]? := fun b cs t f e ht => by
    have hb := lt_of_heap e
    rw [hgr.block b (by simp; omega) (fun e2 => by
      obtain ⟨-, cur, e3⟩ := hLb b e2.symm
      rw [e] at e3
      cases e3
      exact ht rfl), Below.heap_alloc _ _ _ hb]
  have hS : ∀ (b : Nat) (cs : Array Value) (t : TypeId) (f : Nat × Nat), W.heap[b]? = some (.cells cs t f) → t ≠ 136 → t ≠ 135 → (X.setCell ⟨r, 2, none⟩ v').heap[b]? = W.heap[b]? := fun b cs t f e ht ht2 => by
    rw [Below.heap_setCell _ _ _ _ (show b ≠ r by
      rintro rfl
      rw [h.ht] at e
      cases e
      exact ht2 rfl)]
    exact hX b cs t f e ht
  have hrX := (hX _ _ _ _ h.ht (by decide)).trans h.ht
  have hsz2 : W.heap.size ≤ (X.setCell ⟨r, 2, none⟩ v').heap.size := by simpa [World.setCell] using hsz
  have hkey : ∀ k y, T.nd k = some y → k ≠ (T.made : Int) + 1 := fun k y hk => by have := hw.key k y hk; omega
  refine ⟨⟨by rw [heap_set hrX]; rfl, ?_, fun k y hk => ?_, fun j k y z hj hk hjk => ?_, ?_, ⟨h.bd.1, Nat.le_trans h.bd.2.1 hsz2, fun k y hk => ?_⟩⟩, ?_⟩
  · have e : dptrs (Tr.more T x) (fun k => if k = (T.made : Int) + 1 then c else nb k) = dptrs T nb ++ [P0 c] := by
      unfold dptrs
      show (List.range (T.made + 1)).map _ = _
      rw [List.range_succ, List.map_append]
      congr 1
      · refine List.map_congr_left fun i hi => ?_
        have hi2 := List.mem_range.1 hi
        have ne : ¬ (i : Int) + 1 = (T.made : Int) + 1 := by omega
        simp [ptrV, Tr.more, ne]
      · simp [ptrV, Tr.more]
    rw [e]
    refine own_keep own1 fun b cur e2 => Below.heap_setCell _ _ _ _ ?_
    rintro rfl
    rw [hrX] at e2
    simp at e2
  · simp only [Tr.more] at hk
    by_cases e : k = (T.made : Int) + 1
    · rw [if_pos e] at hk
      cases hk
      simp only [if_pos e]
      subst e
      exact ⟨(hS _ _ _ _ hc (by decide) (by decide)).trans hc, hcv.keep fun b cur e2 => hS _ _ _ _ e2 (by decide) (by decide)⟩
    · rw [if_neg e] at hk
      simp only [if_neg e]
      obtain ⟨g1, g2⟩ := h.hn k y hk
      exact ⟨(hS _ _ _ _ g1 (by decide) (by decide)).trans g1, g2.keep fun b cur e2 => hS _ _ _ _ e2 (by decide) (by decide)⟩
  · simp only [Tr.more] at hj hk
    by_cases e : j = (T.made : Int) + 1
    · have e2 : ¬ k = (T.made : Int) + 1 := fun e2 => hjk (e.trans e2.symm)
      rw [if_neg e2] at hk
      simp only [if_pos e, if_neg e2]
      exact fun e3 => hcn k z hk e3.symm
    · rw [if_neg e] at hj
      simp only [if_neg e]
      by_cases e2 : k = (T.made : Int) + 1
      · simp only [if_pos e2]
        exact hcn j y hj
      · rw [if_neg e2] at hk
        simp only [if_neg e2]
        exact h.dn j k y z hj hk hjk
  · obtain ⟨L, fb, bv, hp⟩ := h.pl
    refine Rb.Rq.mono ⟨L, fb, bv, hp.keep hsz2 fun b cs t f e ht => hS b cs t f e ?_ ?_⟩ hsz2 (Nat.le_refl _) <;> (rcases ht with rfl | rfl | rfl | rfl <;> decide)
  · simp only [Tr.more] at hk
    by_cases e : k = (T.made : Int) + 1
    · simp only [if_pos e]; exact hcl
    · rw [if_neg e] at hk
      simp only [if_neg e]
      exact h.bd.2.2 k y hk
  · refine ⟨⟨hgr.os, hgr.tape, hgr.output, hsz2, fun b hb => ?_⟩, fun b cs t f e ht => hS b cs t f e (fun e2 => ht (by simp [rty, e2])) (fun e2 => ht (by simp [rty, e2])), fun b es k e => ?_⟩
    · have hb2 : b < W.heap.size := Nat.lt_of_lt_of_le hb h.bd.2.1
      rw [Below.heap_setCell _ _ _ _ (show b ≠ r by have := h.bd.1; omega), hgr.block b (by simp; omega) (fun e2 => by have := (hLb b e2.symm).1; omega), Below.heap_alloc _ _ _ hb2]
    · have hb2 := lt_of_heap e
      rw [Below.heap_setCell _ _ _ _ (show b ≠ r by rintro rfl; rw [h.ht] at e; cases e), hgr.block b (by simp; omega) (fun e2 => by
        obtain ⟨-, cur, e3⟩ := hLb b e2.symm
        rw [e] at e3
        cases e3), Below.heap_alloc _ _ _ hb2]
end
end Go.Proofs.YtlngeaacjbdmhaaGreat.Rf
