/-
  Both trees and tables, while a law's variables lie in blocks of their own.
-/
import Derived.Test.YtlngeaacjbdmhaaGreatMr34
import Derived.Test.YtlngeaacjbdmhaaGreatMr24
namespace Go.Proofs.YtlngeaacjbdmhaaGreat.Bt
open Go.RowKit
/-- Which types a variable of a law may have. -/
def lone (ty : TypeId) : Prop := own ty ∧ ty ≠ 46 ∧ ty ≠ 57 ∧ ty ≠ 50
theorem lone_found : lone 59 := ⟨own_found, by decide, by decide, by decide⟩
theorem lone_stat : lone 33 := ⟨by unfold own tyA Rf.rty tyC tyD; decide, by decide, by decide, by decide⟩
/-- Both; who asks; from where; other variables. -/
structure Bw (t m r R l0 l1 yb yc yf : Nat) (cu cg fm fn : Int) (B : Nat) (K : Int) (w W : World) (T : Tr) (M : Mt.T) (rs : List Mt.Rm) (L : List (Nat × Array Value × TypeId)) : Prop where
  s : Bx t m r R l0 l1 B K w W T T M M rs
  hb : W.heap[yb]? = some (.cells #[P0 t, P0 m, P0 r, P0 (R + 1)] 46)
  hc : W.heap[yc]? = some (.cells #[I cu, I cg] 57)
  hf : W.heap[yf]? = some (.cells #[I fm, I fn] 50)
  yl : w.heap.size ≤ yf
  l : ∀ c ∈ L, W.heap[c.1]? = some (.cells c.2.1 c.2.2) ∧ lone c.2.2 ∧ w.heap.size ≤ c.1
  nd : (L.map (·.1)).Nodup
section
variable {t m r R l0 l1 yb yc yf B : Nat} {cu cg fm fn K : Int} {w W W' : World} {T T' : Tr} {M M' : Mt.T} {rs rs' : List Mt.Rm} {L : List (Nat × Array Value × TypeId)}
theorem Bx.rebase {V : World} {T2 : Tr} {M2 : Mt.T} (s : Bx t m r R l0 l1 B K V W T T2 M M2 rs) (h : Below w.heap.size w V) : Bx t m r R l0 l1 B K w W T T2 M M2 rs := ⟨s.q, s.d, s.f, s.l, s.a, s.b, s.rt, s.mf, h.trans (s.be.mono h.size), by have := s.le; have := h.size; omega⟩
theorem Bw.below (h : Bw t m r R l0 l1 yb yc yf cu cg fm fn B K w W T M rs L) (g : Below W.heap.size W W') : Bw t m r R l0 l1 yb yc yf cu cg fm fn B K w W' T M rs L := ⟨h.s.below g, (g.block _ (lt_of_heap h.hb)).trans h.hb, (g.block _ (lt_of_heap h.hc)).trans h.hc, (g.block _ (lt_of_heap h.hf)).trans h.hf, h.yl, fun c hc => ⟨(g.block _ (lt_of_heap (h.l c hc).1)).trans (h.l c hc).1, (h.l c hc).2⟩, h.nd⟩
theorem Bw.drew (h : Bw t m r R l0 l1 yb yc yf cu cg fm fn B K w W T M rs L) : Bw t m r R l0 l1 yb yc yf cu cg fm fn B K w W.drew T M rs L := h.below ⟨rfl, rfl, rfl, Nat.le_refl _, fun _ _ => rfl⟩
theorem Bw.step {B' : Nat} {K' : Int} (h : Bw t m r R l0 l1 yb yc yf cu cg fm fn B K w W T M rs L) (g : Bx t m r R l0 l1 B' K' w W' T' T' M' M' rs') (k : Kp W W') : Bw t m r R l0 l1 yb yc yf cu cg fm fn B' K' w W' T' M' rs' L := ⟨g, k _ _ _ _ h.hb own_both, k _ _ _ _ h.hc own_cred, k _ _ _ _ h.hf own_place, h.yl, fun c hc => ⟨k _ _ _ _ (h.l c hc).1 (h.l c hc).2.1.1, (h.l c hc).2⟩, h.nd⟩
theorem Bw.mono {B' : Nat} {K' : Int} (h : Bw t m r R l0 l1 yb yc yf cu cg fm fn B K w W T M rs L) (hb : B ≤ B') (hk : K ≤ K') : Bw t m r R l0 l1 yb yc yf cu cg fm fn B' K' w W T M rs L := ⟨h.s.mono hb hk, h.hb, h.hc, h.hf, h.yl, h.l, h.nd⟩
theorem Bw.cells (h : Bw t m r R l0 l1 yb yc yf cu cg fm fn B K w W T M rs L) : (W.cell? ⟨yb, 0, none⟩ = some (P0 t) ∧ W.cell? ⟨yb, 1, none⟩ = some (P0 m) ∧ W.cell? ⟨yb, 2, none⟩ = some (P0 r) ∧ W.cell? ⟨yb, 3, none⟩ = some (P0 (R + 1))) ∧ (W.cell? ⟨yc, 0, none⟩ = some (I cu) ∧ W.cell? ⟨yc, 1, none⟩ = some (I cg)) ∧ (W.cell? ⟨yf, 0, none⟩ = some (I fm) ∧ W.cell? ⟨yf, 1, none⟩ = some (I fn)) := by
  refine ⟨⟨?_, ?_, ?_, ?_⟩, ⟨?_, ?_⟩, ?_, ?_⟩
  · rw [cell_of h.hb]; rfl
  · rw [cell_of h.hb]; rfl
  · rw [cell_of h.hb]; rfl
  · rw [cell_of h.hb]; rfl
  · rw [cell_of h.hc]; rfl
  · rw [cell_of h.hc]; rfl
  · rw [cell_of h.hf]; rfl
  · rw [cell_of h.hf]; rfl
/-- A variable more. -/
theorem Bw.more {cs : Array Value} {ty : TypeId} (h : Bw t m r R l0 l1 yb yc yf cu cg fm fn B K w W T M rs L) (ht : lone ty) : Bw t m r R l0 l1 yb yc yf cu cg fm fn B K w (W.alloc (.cells cs ty)) T M rs ((W.heap.size, cs, ty) :: L) := by
  have h1 := h.below (W' := W.alloc (.cells cs ty)) ((Below.refl _ W).alloc (Nat.le_refl _) _)
  refine ⟨h1.s, h1.hb, h1.hc, h1.hf, h1.yl, fun c hc => ?_, ?_⟩
  · rcases List.mem_cons.1 hc with rfl | hc
    · exact ⟨heap_alloc_new W _, ht, h.s.be.size⟩
    · exact h1.l c hc
  · rw [List.map_cons, List.nodup_cons]
    refine ⟨fun hm => ?_, h.nd⟩
    obtain ⟨c, hc, e⟩ := List.mem_map.1 hm
    have := lt_of_heap (h.l c hc).1
    simp only at e
    omega
theorem bw_new {cs : Array Value} {ty : TypeId} (ht : lone ty) (h : Bw t m r R l0 l1 yb yc yf cu cg fm fn B K w W T M rs L) (g : Below (W.alloc (.cells cs ty)).heap.size (W.alloc (.cells cs ty)) W') : Bw t m r R l0 l1 yb yc yf cu cg fm fn B K w W' T M rs ((W.heap.size, cs, ty) :: L) := (h.more ht).below g
theorem bw_new_d {cs : Array Value} {ty : TypeId} (ht : lone ty) (h : Bw t m r R l0 l1 yb yc yf cu cg fm fn B K w W T M rs L) (g : Below (W.drew.alloc (.cells cs ty)).heap.size (W.drew.alloc (.cells cs ty)) W') : Bw t m r R l0 l1 yb yc yf cu cg fm fn B K w W' T M rs ((W.heap.size, cs, ty) :: L) := by
  have := bw_new ht h.drew g
  exact this
theorem bw_alloc {cs : Array Value} {ty : TypeId} (ht : lone ty) (h : Bw t m r R l0 l1 yb yc yf cu cg fm fn B K w W T M rs L) : ∃ A0, W.alloc (.cells cs ty) = A0 ∧ Bw t m r R l0 l1 yb yc yf cu cg fm fn B K w A0 T M rs ((W.heap.size, cs, ty) :: L) := ⟨_, rfl, h.more ht⟩
/-- A variable is turned. -/
theorem Bw.turn {q : Nat} {cs cs' : Array Value} {ty : TypeId} (h : Bw t m r R l0 l1 yb yc yf cu cg fm fn B K w W T M rs ((q, cs, ty) :: L)) (F : Fr [q] W W') (hq : W'.heap[q]? = some (.cells cs' ty)) : Bw t m r R l0 l1 yb yc yf cu cg fm fn B K w W' T M rs ((q, cs', ty) :: L) := by
  obtain ⟨h1, h2, h3⟩ := h.l _ (List.mem_cons_self ..)
  simp only at h1 h2 h3
  have hne : ∀ (b : Nat) (c0 : Array Value) (t0 : TypeId), W.heap[b]? = some (.cells c0 t0) → t0 ≠ ty → W'.heap[b]? = some (.cells c0 t0) := fun b c0 t0 e ht => (F.blk b (lt_of_heap e) (by
    simp
    rintro rfl
    rw [h1] at e
    cases e
    exact ht rfl)).trans e
  have hnd := h.nd
  rw [List.map_cons, List.nodup_cons] at hnd
  refine ⟨h.s.turn h1 h2.1 F h3, hne _ _ _ h.hb (Ne.symm h2.2.1), hne _ _ _ h.hc (Ne.symm h2.2.2.1), hne _ _ _ h.hf (Ne.symm h2.2.2.2), h.yl, fun c hc => ?_, ?_⟩
  · rcases List.mem_cons.1 hc with rfl | hc
    · exact ⟨hq, h2, h3⟩
    · obtain ⟨g1, g2, g3⟩ := h.l c (List.mem_cons_of_mem _ hc)
      refine ⟨(F.blk c.1 (lt_of_heap g1) ?_).trans g1, g2, g3⟩
      simp
      rintro e
      exact hnd.1 (List.mem_map.2 ⟨c, hc, e⟩)
  · rw [List.map_cons, List.nodup_cons]
    exact hnd
theorem Bw.store7 {q : Nat} {z0 z1 z2 z3 z4 z5 z6 : Value} {ty : TypeId} (h : Bw t m r R l0 l1 yb yc yf cu cg fm fn B K w W T M rs ((q, #[z0, z1, z2, z3, z4, z5, z6], ty) :: L)) (v0 v1 v2 v3 v4 v5 v6 : Value) :
    ∃ X1 X2 X3 X4 X5 X6 X7 : World, (W.setCell ⟨q, 0, none⟩ v0 = X1 ∧ X1.setCell ⟨q, 1, none⟩ v1 = X2 ∧ X2.setCell ⟨q, 2, none⟩ v2 = X3 ∧ X3.setCell ⟨q, 3, none⟩ v3 = X4 ∧ X4.setCell ⟨q, 4, none⟩ v4 = X5 ∧ X5.setCell ⟨q, 5, none⟩ v5 = X6 ∧ X6.setCell ⟨q, 6, none⟩ v6 = X7) ∧ (W.cell? ⟨q, 0, none⟩ = some z0 ∧ X1.cell? ⟨q, 1, none⟩ = some z1 ∧ X2.cell? ⟨q, 2, none⟩ = some z2 ∧ X3.cell? ⟨q, 3, none⟩ = some z3 ∧ X4.cell? ⟨q, 4, none⟩ = some z4 ∧ X5.cell? ⟨q, 5, none⟩ = some z5 ∧ X6.cell? ⟨q, 6, none⟩ = some z6) ∧ (W.frozen? ⟨q, 0, none⟩ = false ∧ X1.frozen? ⟨q, 1, none⟩ = false ∧ X2.frozen? ⟨q, 2, none⟩ = false ∧ X3.frozen? ⟨q, 3, none⟩ = false ∧ X4.frozen? ⟨q, 4, none⟩ = false ∧ X5.frozen? ⟨q, 5, none⟩ = false ∧ X6.frozen? ⟨q, 6, none⟩ = false) ∧ Hid (Bw t m r R l0 l1 yb yc yf cu cg fm fn B K w X7 T M rs ((q, #[v0, v1, v2, v3, v4, v5, v6], ty) :: L)) := by
  have hq := (h.l _ (List.mem_cons_self ..)).1
  simp only at hq
  obtain ⟨X1, e1, g1⟩ : ∃ X, W.setCell ⟨q, 0, none⟩ v0 = X ∧ X.heap[q]? = some (.cells #[v0, z1, z2, z3, z4, z5, z6] ty) := ⟨_, rfl, by rw [heap_set hq]; rfl⟩
  obtain ⟨X2, e2, g2⟩ : ∃ X, X1.setCell ⟨q, 1, none⟩ v1 = X ∧ X.heap[q]? = some (.cells #[v0, v1, z2, z3, z4, z5, z6] ty) := ⟨_, rfl, by rw [heap_set g1]; rfl⟩
  obtain ⟨X3, e3, g3⟩ : ∃ X, X2.setCell ⟨q, 2, none⟩ v2 = X ∧ X.heap[q]? = some (.cells #[v0, v1, v2, z3, z4, z5, z6] ty) := ⟨_, rfl, by rw [heap_set g2]; rfl⟩
  obtain ⟨X4, e4, g4⟩ : ∃ X, X3.setCell ⟨q, 3, none⟩ v3 = X ∧ X.heap[q]? = some (.cells #[v0, v1, v2, v3, z4, z5, z6] ty) := ⟨_, rfl, by rw [heap_set g3]; rfl⟩
  obtain ⟨X5, e5, g5⟩ : ∃ X, X4.setCell ⟨q, 4, none⟩ v4 = X ∧ X.heap[q]? = some (.cells #[v0, v1, v2, v3, v4, z5, z6] ty) := ⟨_, rfl, by rw [heap_set g4]; rfl⟩
  obtain ⟨X6, e6, g6⟩ : ∃ X, X5.setCell ⟨q, 5, none⟩ v5 = X ∧ X.heap[q]? = some (.cells #[v0, v1, v2, v3, v4, v5, z6] ty) := ⟨_, rfl, by rw [heap_set g5]; rfl⟩
  obtain ⟨X7, e7, g7⟩ : ∃ X, X6.setCell ⟨q, 6, none⟩ v6 = X ∧ X.heap[q]? = some (.cells #[v0, v1, v2, v3, v4, v5, v6] ty) := ⟨_, rfl, by rw [heap_set g6]; rfl⟩
  have F : Fr [q] W X7 := by
    rw [← e7, ← e6, ← e5, ← e4, ← e3, ← e2, ← e1]
    exact (((((((Fr.refl _ W).set (a := ⟨q, 0, none⟩) (by simp) _).set (a := ⟨q, 1, none⟩) (by simp) _).set (a := ⟨q, 2, none⟩) (by simp) _).set (a := ⟨q, 3, none⟩) (by simp) _).set (a := ⟨q, 4, none⟩) (by simp) _).set (a := ⟨q, 5, none⟩) (by simp) _).set (a := ⟨q, 6, none⟩) (by simp) _
  exact ⟨X1, X2, X3, X4, X5, X6, X7, ⟨e1, e2, e3, e4, e5, e6, e7⟩, ⟨by rw [cell_of hq]; rfl, by rw [cell_of g1]; rfl, by rw [cell_of g2]; rfl, by rw [cell_of g3]; rfl, by rw [cell_of g4]; rfl, by rw [cell_of g5]; rfl, by rw [cell_of g6]; rfl⟩, ⟨frozen_of hq 0, frozen_of g1 1, frozen_of g2 2, frozen_of g3 3, frozen_of g4 4, frozen_of g5 5, frozen_of g6 6⟩, hide (h.turn F g7)⟩
/-- The place is turned. -/
theorem Bw.place (h : Bw t m r R l0 l1 yb yc yf cu cg fm fn B K w W T M rs []) (a b : Int) : Bw t m r R l0 l1 yb yc yf cu cg a b B K w ((W.setCell ⟨yf, 0, none⟩ (I a)).setCell ⟨yf, 1, none⟩ (I b)) T M rs [] := by
  have F : Fr [yf] W ((W.setCell ⟨yf, 0, none⟩ (I a)).setCell ⟨yf, 1, none⟩ (I b)) := ((Fr.refl _ W).set (a := ⟨yf, 0, none⟩) (by simp) _).set (a := ⟨yf, 1, none⟩) (by simp) _
  have hne : ∀ (b0 : Nat) (c0 : Array Value) (t0 : TypeId), W.heap[b0]? = some (.cells c0 t0) → t0 ≠ 50 → ((W.setCell ⟨yf, 0, none⟩ (I a)).setCell ⟨yf, 1, none⟩ (I b)).heap[b0]? = some (.cells c0 t0) := fun b0 c0 t0 e ht => (F.blk b0 (lt_of_heap e) (by
    simp
    rintro rfl
    rw [h.hf] at e
    cases e
    exact ht rfl)).trans e
  exact ⟨h.s.turn h.hf own_place F h.yl, hne _ _ _ h.hb (by decide), hne _ _ _ h.hc (by decide), by rw [heap_set (heap_set h.hf 0 _) 1 _]; rfl, h.yl, by simp, by simp⟩
/-! The calls. -/
theorem walk_W (h : Bw t m r R l0 l1 yb yc yf cu cg fm fn B K w W T M rs L) (hB : B ≤ 860) (hi : Inv T M) (cu cg : Int) (gm gn : Int) (hf : (kl gn).wf = true) (p : ByteArray) (fo : Bool) (Re : Wl.Re) (hR : (Eb T M cu cg fo).walk gm gn p.data.toList = Re) :
    Calls Tryz.prog 27 #[P0 t, P0 m, .agg #[I 0, I 1], .agg #[I gm, I gn], .agg #[I cu, I cg], .string p, .bool fo] W fun e w' => e = .returned (.tuple #[.agg #[I Re.f.dm, I Re.f.dn, .string (Wl.bs Re.f.last), I Re.f.am, I Re.f.an, .bool Re.f.has, .bool Re.f.slash], I Re.why]) ∧ Below W.heap.size W w' :=
  Wl.Walk_any (h.s.wd hB hi cu cg fo) gm gn (show (kl (1 : Int)).wf = true by decide) hf p.data.toList Re hR
theorem place_W (h : Bw t m r R l0 l1 yb yc yf cu cg fm fn B K w W T M rs L) (hB : B ≤ 860) (hi : Inv T M) (x y : Int) (hy : (kl y).wf = true) (b : Bool) (hb : (Eb T M 0 0 true).place x y = b) :
    Calls Tryz.prog 32 #[P0 t, P0 m, .agg #[I x, I y]] W fun e w' => e = .returned (.bool b) ∧ Below W.heap.size W w' :=
  Wl.place_any (h.s.wd hB hi 0 0 true) x y hy b hb
theorem down_W (h : Bw t m r R l0 l1 yb yc yf cu cg fm fn B K w W T M rs L) (x y a b : Int) (hab : Mt.down M.md M.es x y = (a, b)) :
    Calls Tryz.prog 38 #[P0 m, .agg #[I x, I y]] W fun e w' => e = .returned (.agg #[I a, I b]) ∧ Below W.heap.size W w' := by
  have := Mt.down_Q h.s.a x y
  rw [hab] at this
  exact this
theorem stat_W (h : Bw t m r R l0 l1 yb yc yf cu cg fm fn B K w W T M rs L) (hB : B ≤ 860) (n : Int) (hn : (kl n).wf = true) :
    Calls Tryz.prog 37 #[P0 t, I n] W fun e w' => ∃ (a mo u g l z : Int) (f : Bool), e = .returned (.tuple #[.agg #[I a, I (T.kindOf n), I mo, I u, I g, I l, I z], .bool f]) ∧ Below W.heap.size W w' := by
  obtain ⟨a, mo, u, g, l, z, hst, -⟩ := Wl.stat_shape T n
  refine (stat_Q h.s.q (by omega) hn _ _ hst rfl).mono ?_
  rintro e w' ⟨h1, -, h2⟩
  exact ⟨a, mo, u, g, l, z, _, h1, unhide h2⟩
end
end Go.Proofs.YtlngeaacjbdmhaaGreat.Bt

namespace Go.Proofs.YtlngeaacjbdmhaaGreat.Mt
open Go.RowKit
attribute [local go_sem ↓] Go.wp_at_zero Go.wp_at_succ
set_option maxHeartbeats 400000 in
theorem within_any (v hi : Int) (w : World) (h0 : 0 ≤ hi) (h1 : hi ≤ 1000) :
    Calls Tryz.prog 23 #[.int .i64 v, .int .i64 0, .int .i64 hi] w fun e w' => (∃ r : Int, (0 ≤ r ∧ r ≤ hi) ∧ e = .returned (I r)) ∧ w' = w := by
  have t1 : v.tmod (hi + 1) < hi + 1 := Int.tmod_lt_of_pos v (by omega)
  have t2 : -(hi + 1) < v.tmod (hi + 1) := by
    have h := Int.tmod_lt_of_pos (-v) (show 0 < hi + 1 by omega)
    rw [Int.neg_tmod] at h
    omega
  have t3 : ¬ hi + 1 = 0 := by omega
  by_cases hn : v.tmod (hi + 1) < 0
  · go_enter Tryz.func23, Tryz.ntmps23
    go_wp2
    go_ret
    exact ⟨⟨v.tmod (hi + 1) + hi + 1, by omega, rfl⟩, rfl⟩
  · go_enter Tryz.func23, Tryz.ntmps23
    go_wp2
    go_ret
    exact ⟨⟨v.tmod (hi + 1), by omega, rfl⟩, rfl⟩
end Go.Proofs.YtlngeaacjbdmhaaGreat.Mt
