/-
  The walk of WalkSteps.
-/
import Derived.Test.YtlngeaacjbdmhaaGreatMg35
import Derived.Deep.CutRange
import Derived.Deep.CutBlock
namespace Go.Proofs.YtlngeaacjbdmhaaGreat.Bt
open Go.RowKit
attribute [local go_sem ↓] Go.wp_at_zero Go.wp_at_succ
/-- A change that came in lies as it lay. -/
theorem act_cells {W W' : World} {B b o : Nat} {x : Ac} (h : ActAt W b o x) (hb : b < B) (g : Below B W W') : W'.cell? ⟨b, o, none⟩ = some (I x.kind) ∧ W'.cell? ⟨b, o + 1, none⟩ = some (I x.dir) ∧ W'.cell? ⟨b, o + 2, none⟩ = some (I x.tq) ∧ W'.cell? ⟨b, o + 3, none⟩ = some (I x.n) ∧ W'.cell? ⟨b, o + 4, none⟩ = some (.string x.s) ∧ W'.cell? ⟨b, o + 5, none⟩ = some (.string x.ad) ∧ W'.cell? ⟨b, o + 6, none⟩ = some (I x.sn) ∧ W'.cell? ⟨b, o + 7, none⟩ = some (I x.kd) ∧ W'.cell? ⟨b, o + 8, none⟩ = some (I x.mo) ∧ W'.cell? ⟨b, o + 9, none⟩ = some (I x.ui) ∧ W'.cell? ⟨b, o + 10, none⟩ = some (I x.gi) ∧ W'.cell? ⟨b, o + 11, none⟩ = some (I x.li) ∧ W'.cell? ⟨b, o + 12, none⟩ = some (I x.si) ∧ W'.cell? ⟨b, o + 13, none⟩ = some (I x.am) ∧ W'.cell? ⟨b, o + 14, none⟩ = some (I x.an) := by
  have := h.below hb g
  exact ⟨this.c0, this.c1, this.c2, this.c3, this.c4, this.c5, this.c6, this.c7, this.c8, this.c9, this.c10, this.c11, this.c12, this.c13, this.c14⟩
theorem fnd_kept {z z' : World} {cs : Array Value} (h : Below (z.alloc (.cells cs 59)).heap.size (z.alloc (.cells cs 59)) z') : z'.heap[z.heap.size]? = some (.cells cs 59) := (h.block _ (by simp)).trans (heap_alloc_new z _)
theorem cellsF {W : World} {b : Nat} {ty : TypeId} {v0 v1 v2 v3 v4 v5 v6 : Value} (h : W.heap[b]? = some (.cells #[v0, v1, v2, v3, v4, v5, v6] ty)) : W.cell? ⟨b, 0, none⟩ = some v0 ∧ W.cell? ⟨b, 1, none⟩ = some v1 ∧ W.cell? ⟨b, 2, none⟩ = some v2 ∧ W.cell? ⟨b, 3, none⟩ = some v3 ∧ W.cell? ⟨b, 4, none⟩ = some v4 ∧ W.cell? ⟨b, 5, none⟩ = some v5 ∧ W.cell? ⟨b, 6, none⟩ = some v6 ∧ ∀ i, W.frozen? ⟨b, i, none⟩ = false := by
  refine ⟨?_, ?_, ?_, ?_, ?_, ?_, ?_, frozen_of h⟩ <;> (rw [cell_of h]; rfl)
theorem keep7 {z : World} {q b i : Nat} {v0 v1 v2 v3 v4 v5 v6 : Value} (h : ¬ b = q) : (((((((z.setCell ⟨q, 0, none⟩ v0).setCell ⟨q, 1, none⟩ v1).setCell ⟨q, 2, none⟩ v2).setCell ⟨q, 3, none⟩ v3).setCell ⟨q, 4, none⟩ v4).setCell ⟨q, 5, none⟩ v5).setCell ⟨q, 6, none⟩ v6).cell? ⟨b, i, none⟩ = z.cell? ⟨b, i, none⟩ := by
  refine World.cell?_of_block (a := ⟨b, i, none⟩) ?_
  rw [Below.heap_setCell _ _ _ _ (by exact h), Below.heap_setCell _ _ _ _ (by exact h), Below.heap_setCell _ _ _ _ (by exact h), Below.heap_setCell _ _ _ _ (by exact h), Below.heap_setCell _ _ _ _ (by exact h), Below.heap_setCell _ _ _ _ (by exact h), Below.heap_setCell _ _ _ _ (by exact h)]
theorem Bz.yb_ne {t m r R l0 l1 yb yc B : Nat} {cu cg K : Int} {w W : World} {T : Tr} {M : Mt.T} {rs : List Mt.Rm} (h : Bz t m r R l0 l1 yb yc cu cg B K w W T M rs) : ¬ yb = W.heap.size := by
  have := lt_of_heap h.hb
  omega
theorem Bz.yc_ne {t m r R l0 l1 yb yc B : Nat} {cu cg K : Int} {w W : World} {T : Tr} {M : Mt.T} {rs : List Mt.Rm} (h : Bz t m r R l0 l1 yb yc cu cg B K w W T M rs) : ¬ yc = W.heap.size := by
  have := lt_of_heap h.hc
  omega
theorem be7 {w z : World} {B q : Nat} {v0 v1 v2 v3 v4 v5 v6 : Value} (h : Below B w z) (hq : B ≤ q) : Below B w (((((((z.setCell ⟨q, 0, none⟩ v0).setCell ⟨q, 1, none⟩ v1).setCell ⟨q, 2, none⟩ v2).setCell ⟨q, 3, none⟩ v3).setCell ⟨q, 4, none⟩ v4).setCell ⟨q, 5, none⟩ v5).setCell ⟨q, 6, none⟩ v6) := (((((((h.setCell (p := ⟨q, 0, none⟩) hq _).setCell (p := ⟨q, 1, none⟩) hq _).setCell (p := ⟨q, 2, none⟩) hq _).setCell (p := ⟨q, 3, none⟩) hq _).setCell (p := ⟨q, 4, none⟩) hq _).setCell (p := ⟨q, 5, none⟩) hq _).setCell (p := ⟨q, 6, none⟩) hq _)
abbrev zF : Array Value := #[I 0, I 0, .string ⟨#[]⟩, I 0, I 0, .bool false, .bool false]
/-- The same, while what a walk comes to has a block of its own. -/
structure Bf (t m r R l0 l1 yb yc q : Nat) (cu cg : Int) (B : Nat) (K : Int) (w W : World) (T : Tr) (M : Mt.T) (rs : List Mt.Rm) : Prop where
  z : Bz t m r R l0 l1 yb yc cu cg B K w W T M rs
  f : W.heap[q]? = some (.cells zF 59)
  ge : w.heap.size ≤ q
theorem Bf.below {q : Nat} {W' : World} {t m r R l0 l1 yb yc B : Nat} {cu cg K : Int} {w W : World} {T : Tr} {M : Mt.T} {rs : List Mt.Rm} (h : Bf t m r R l0 l1 yb yc q cu cg B K w W T M rs) (g : Below W.heap.size W W') : Bf t m r R l0 l1 yb yc q cu cg B K w W' T M rs := ⟨h.z.below g, (g.block _ (lt_of_heap h.f)).trans h.f, h.ge⟩
theorem bf_new {W' : World} {t m r R l0 l1 yb yc B : Nat} {cu cg K : Int} {w W : World} {T : Tr} {M : Mt.T} {rs : List Mt.Rm} (h : Bz t m r R l0 l1 yb yc cu cg B K w W T M rs) (g : Below (W.alloc (.cells zF 59)).heap.size (W.alloc (.cells zF 59)) W') : Bf t m r R l0 l1 yb yc W.heap.size cu cg B K w W' T M rs := ⟨(h.below ((Below.refl _ _).alloc (Nat.le_refl _) _)).below g, fnd_kept g, h.s.be.size⟩
theorem bf_new_d {W' : World} {t m r R l0 l1 yb yc B : Nat} {cu cg K : Int} {w W : World} {T : Tr} {M : Mt.T} {rs : List Mt.Rm} (h : Bz t m r R l0 l1 yb yc cu cg B K w W T M rs) (g : Below (W.drew.alloc (.cells zF 59)).heap.size (W.drew.alloc (.cells zF 59)) W') : Bf t m r R l0 l1 yb yc W.heap.size cu cg B K w W' T M rs := by
  have := bf_new (W := W.drew) h.drew g
  exact this
theorem Bf.ne {q : Nat} {t m r R l0 l1 yb yc B : Nat} {cu cg K : Int} {w W : World} {T : Tr} {M : Mt.T} {rs : List Mt.Rm} (h : Bf t m r R l0 l1 yb yc q cu cg B K w W T M rs) : ¬ yb = q ∧ ¬ yc = q := by
  constructor
  · rintro rfl
    have := h.z.hb
    rw [h.f] at this
    simp at this
  · rintro rfl
    have := h.z.hc
    rw [h.f] at this
    simp at this
theorem Bf.store {q : Nat} {t m r R l0 l1 yb yc B : Nat} {cu cg K : Int} {w W : World} {T : Tr} {M : Mt.T} {rs : List Mt.Rm} (h : Bf t m r R l0 l1 yb yc q cu cg B K w W T M rs) (F1 F2 : Int) (F3 : ByteArray) (F4 F5 : Int) (F6 F7 : Bool) :
    ∃ X1 X2 X3 X4 X5 X6 X7 : World, (W.setCell ⟨q, 0, none⟩ (I F1) = X1 ∧ X1.setCell ⟨q, 1, none⟩ (I F2) = X2 ∧ X2.setCell ⟨q, 2, none⟩ (.string F3) = X3 ∧ X3.setCell ⟨q, 3, none⟩ (I F4) = X4 ∧ X4.setCell ⟨q, 4, none⟩ (I F5) = X5 ∧ X5.setCell ⟨q, 5, none⟩ (.bool F6) = X6 ∧ X6.setCell ⟨q, 6, none⟩ (.bool F7) = X7) ∧ (W.cell? ⟨q, 0, none⟩ = some (I 0) ∧ X1.cell? ⟨q, 1, none⟩ = some (I 0) ∧ X2.cell? ⟨q, 2, none⟩ = some (.string ⟨#[]⟩) ∧ X3.cell? ⟨q, 3, none⟩ = some (I 0) ∧ X4.cell? ⟨q, 4, none⟩ = some (I 0) ∧ X5.cell? ⟨q, 5, none⟩ = some (.bool false) ∧ X6.cell? ⟨q, 6, none⟩ = some (.bool false)) ∧ (W.frozen? ⟨q, 0, none⟩ = false ∧ X1.frozen? ⟨q, 1, none⟩ = false ∧ X2.frozen? ⟨q, 2, none⟩ = false ∧ X3.frozen? ⟨q, 3, none⟩ = false ∧ X4.frozen? ⟨q, 4, none⟩ = false ∧ X5.frozen? ⟨q, 5, none⟩ = false ∧ X6.frozen? ⟨q, 6, none⟩ = false) ∧ (X7.cell? ⟨yb, 0, none⟩ = some (P0 t) ∧ X7.cell? ⟨yb, 1, none⟩ = some (P0 m) ∧ X7.cell? ⟨yc, 0, none⟩ = some (I cu) ∧ X7.cell? ⟨yc, 1, none⟩ = some (I cg)) ∧ Hid (Below w.heap.size w X7) := by
  obtain ⟨n1, n2⟩ := h.ne
  obtain ⟨b0, b1, -, -⟩ := h.z.cb
  obtain ⟨c0, c1⟩ := h.z.cc
  refine ⟨_, _, _, _, _, _, _, ⟨rfl, rfl, rfl, rfl, rfl, rfl, rfl⟩, ⟨by rw [cell_of h.f]; rfl, by rw [cell_of (heap_set h.f 0 _)]; rfl, by rw [cell_of (heap_set (heap_set h.f 0 _) 1 _)]; rfl, by rw [cell_of (heap_set (heap_set (heap_set h.f 0 _) 1 _) 2 _)]; rfl, by rw [cell_of (heap_set (heap_set (heap_set (heap_set h.f 0 _) 1 _) 2 _) 3 _)]; rfl, by rw [cell_of (heap_set (heap_set (heap_set (heap_set (heap_set h.f 0 _) 1 _) 2 _) 3 _) 4 _)]; rfl, by rw [cell_of (heap_set (heap_set (heap_set (heap_set (heap_set (heap_set h.f 0 _) 1 _) 2 _) 3 _) 4 _) 5 _)]; rfl⟩, ⟨frozen_of h.f 0, frozen_of (heap_set h.f 0 _) 1, frozen_of (heap_set (heap_set h.f 0 _) 1 _) 2, frozen_of (heap_set (heap_set (heap_set h.f 0 _) 1 _) 2 _) 3, frozen_of (heap_set (heap_set (heap_set (heap_set h.f 0 _) 1 _) 2 _) 3 _) 4, frozen_of (heap_set (heap_set (heap_set (heap_set (heap_set h.f 0 _) 1 _) 2 _) 3 _) 4 _) 5, frozen_of (heap_set (heap_set (heap_set (heap_set (heap_set (heap_set h.f 0 _) 1 _) 2 _) 3 _) 4 _) 5 _) 6⟩, ⟨?_, ?_, ?_, ?_⟩, hide (be7 h.z.s.be h.ge)⟩
  · rw [keep7 n1]; exact b0
  · rw [keep7 n1]; exact b1
  · rw [keep7 n2]; exact c0
  · rw [keep7 n2]; exact c1
theorem bz_alloc {t m r R l0 l1 yb yc B : Nat} {cu cg K : Int} {w W : World} {T : Tr} {M : Mt.T} {rs : List Mt.Rm} (h : Bz t m r R l0 l1 yb yc cu cg B K w W T M rs) : ∃ A0, W.alloc (.cells zF 59) = A0 ∧ Bf t m r R l0 l1 yb yc W.heap.size cu cg B K w A0 T M rs := ⟨_, rfl, h.below ((Below.refl _ _).alloc (Nat.le_refl _) _), heap_alloc_new W _, h.s.be.size⟩
theorem bz_cb {t m r R l0 l1 yb yc B : Nat} {cu cg K : Int} {w W : World} (h : ∃ T' M' rs', Inv T' M' ∧ Bz t m r R l0 l1 yb yc cu cg B K w W T' M' rs') : W.cell? ⟨yb, 0, none⟩ = some (P0 t) ∧ W.cell? ⟨yb, 1, none⟩ = some (P0 m) ∧ W.cell? ⟨yb, 2, none⟩ = some (P0 r) ∧ W.cell? ⟨yb, 3, none⟩ = some (P0 (R + 1)) := by
  obtain ⟨T', M', rs', -, h⟩ := h
  exact h.cb
theorem bz_be {t m r R l0 l1 yb yc B : Nat} {cu cg K : Int} {w W : World} (h : ∃ T' M' rs', Inv T' M' ∧ Bz t m r R l0 l1 yb yc cu cg B K w W T' M' rs') : Below w.heap.size w W := by
  obtain ⟨T', M', rs', -, h⟩ := h
  exact h.s.be
theorem bz_mono {t m r R l0 l1 yb yc B B' : Nat} {cu cg K K' : Int} {w W : World} {T : Tr} {M : Mt.T} {rs : List Mt.Rm} (h : Bz t m r R l0 l1 yb yc cu cg B K w W T M rs) (hb : B ≤ B') (hk : K ≤ K') : Bz t m r R l0 l1 yb yc cu cg B' K' w W T M rs := ⟨h.s.mono hb hk, h.hb, h.hc⟩
set_option maxRecDepth 100000 in
set_option maxHeartbeats 8000000 in
theorem steps_walk (pa : Option Addr) (len cap : Nat) (cu cg : Int) (pb : Option Addr) (len2 cap2 : Nat) (fo : Bool) (w : World) (ha : ActsAt w pa len) (hb2 : IntsAt w pb len2) :
    Calls Tryz.prog 8 #[.slice pa len cap, .agg #[I cu, I cg], .slice pb len2 cap2, .bool fo] w fun e w' => e = .returned (.bool true) ∧ Below w.heap.size w w' := by
  have hlen : (len : Int) ≤ 9223372036854775807 := by have := ha.1; omega
  obtain ⟨V, hV, hc, hB⟩ : ∃ V, w.alloc (.cells #[I cu, I cg] 57) = V ∧ V.heap[w.heap.size]? = some (.cells #[I cu, I cg] 57) ∧ Below w.heap.size w V := ⟨_, rfl, heap_alloc_new w _, (Below.refl _ _).alloc (Nat.le_refl _) _⟩
  have HA := hide ha
  have HI2 := hide hb2
  have HC := hide hc
  have HB := hide hB
  have HTop := hide Wl.top_any
  have HKn := hide Wl.known_any
  clear ha hb2 hc hB
  go_enter Tryz.func8, Tryz.ntmps8
  go_wp2_with fail
  refine (new_any V).mono ?_
  rintro e w1 ⟨t, m, r, R, l0, l1, rfl, S1⟩
  have HZ : Hid (Bz t m r R l0 l1 w1.heap.size w.heap.size cu cg 1 0 V (w1.alloc (.cells #[P0 t, P0 m, P0 r, P0 (R + 1)] 46)) (Tr.new 40 20) ⟨1, 0, []⟩ [⟨0, 0, 1, true⟩]) := by
    have s := unhide S1
    have g : Below w1.heap.size w1 (w1.alloc (.cells #[P0 t, P0 m, P0 r, P0 (R + 1)] 46)) := (Below.refl _ _).alloc (Nat.le_refl _) _
    have h1 := (s.be.block _ (lt_of_heap (unhide HC))).trans (unhide HC)
    exact hide ⟨s.below g, heap_alloc_new w1 _, (g.block _ (lt_of_heap h1)).trans h1⟩
  clear S1 HC
  generalize hyb : w1.heap.size = yb at HZ
  generalize hyc : w.heap.size = yc at HZ
  go_upto_block 0 with fail
  clear hyb hyc hV
  go_cut [] from 11 to 38 (fun wc => ∃ (T : Tr) (M : Mt.T) (rs : List Mt.Rm), Inv T M ∧ Bz t m r R l0 l1 yb yc cu cg 201 50 V wc T M rs)
  case first =>
    go_wp2_with fail
    go_loopw [11] (fun v wr => ∃ (k : Nat) (T : Tr) (M : Mt.T) (rs : List Mt.Rm), v = I k ∧ k ≤ 50 ∧ k ≤ len ∧ Hid (Inv T M ∧ Bz t m r R l0 l1 yb yc cu cg (1 + 4 * k) (k : Int) V wr T M rs)) (fun v _ => 50 - (intOf v).toNat)
    case atStart => exact ⟨0, _, _, _, rfl, by omega, by omega, hide ⟨Inv.new, unhide HZ⟩⟩
    case round =>
      clear HZ
      obtain ⟨k, T, M, rs, rfl, hk, hkl, HZ⟩ := hrel
      by_cases hc : k < len ∧ k < 50
      · obtain ⟨b, off, x, rfl, hb, A⟩ := (unhide HA).2 k hc.1
        have j1 : (k : Int) < (len : Int) := by omega
        have j2 : (k : Int) < 50 := by omega
        have j0 : (0 : Int) ≤ (k : Int) := by omega
        have HK : Hid (∀ W', Below V.heap.size V W' → W'.cell? ⟨b, off + k * 15, none⟩ = some (I x.kind) ∧ W'.cell? ⟨b, off + k * 15 + 1, none⟩ = some (I x.dir) ∧ W'.cell? ⟨b, off + k * 15 + 2, none⟩ = some (I x.tq) ∧ W'.cell? ⟨b, off + k * 15 + 3, none⟩ = some (I x.n) ∧ W'.cell? ⟨b, off + k * 15 + 4, none⟩ = some (.string x.s) ∧ W'.cell? ⟨b, off + k * 15 + 5, none⟩ = some (.string x.ad) ∧ W'.cell? ⟨b, off + k * 15 + 6, none⟩ = some (I x.sn) ∧ W'.cell? ⟨b, off + k * 15 + 7, none⟩ = some (I x.kd) ∧ W'.cell? ⟨b, off + k * 15 + 8, none⟩ = some (I x.mo) ∧ W'.cell? ⟨b, off + k * 15 + 9, none⟩ = some (I x.ui) ∧ W'.cell? ⟨b, off + k * 15 + 10, none⟩ = some (I x.gi) ∧ W'.cell? ⟨b, off + k * 15 + 11, none⟩ = some (I x.li) ∧ W'.cell? ⟨b, off + k * 15 + 12, none⟩ = some (I x.si) ∧ W'.cell? ⟨b, off + k * 15 + 13, none⟩ = some (I x.am) ∧ W'.cell? ⟨b, off + k * 15 + 14, none⟩ = some (I x.an)) := hide fun W' g => act_cells A hb ((unhide HB).trans (g.mono (unhide HB).size))
        have HTm := hide (fun W' => tame_any x A.w W')
        clear A hb hc
        obtain ⟨kind, dir, tq, n, s, ad, sn, kd, mo, ui, gi, li, si, am, an⟩ := x
        simp only at HK
        simp only [Ac.v, Ac.cs] at HTm
        obtain ⟨b0, b1, b2, b3⟩ := (unhide HZ).2.cb
        obtain ⟨x0, x1, x2, x3, x4, x5, x6, x7, x8, x9, x10, x11, x12, x13, x14⟩ := unhide HK wr (unhide HZ).2.s.be
        go_wp2_with fail
        go_region_held3 (fun w' => w'.cell? ⟨yb, 0, none⟩ = some (P0 t) ∧ w'.cell? ⟨yb, 1, none⟩ = some (P0 m) ∧ w'.cell? ⟨yb, 2, none⟩ = some (P0 r) ∧ w'.cell? ⟨yb, 3, none⟩ = some (P0 (R + 1)) ∧ w'.cell? ⟨b, off + k * 15, none⟩ = some (I kind) ∧ w'.cell? ⟨b, off + k * 15 + 1, none⟩ = some (I dir) ∧ w'.cell? ⟨b, off + k * 15 + 2, none⟩ = some (I tq) ∧ w'.cell? ⟨b, off + k * 15 + 3, none⟩ = some (I n) ∧ w'.cell? ⟨b, off + k * 15 + 4, none⟩ = some (.string s) ∧ w'.cell? ⟨b, off + k * 15 + 5, none⟩ = some (.string ad) ∧ w'.cell? ⟨b, off + k * 15 + 6, none⟩ = some (I sn) ∧ w'.cell? ⟨b, off + k * 15 + 7, none⟩ = some (I kd) ∧ w'.cell? ⟨b, off + k * 15 + 8, none⟩ = some (I mo) ∧ w'.cell? ⟨b, off + k * 15 + 9, none⟩ = some (I ui) ∧ w'.cell? ⟨b, off + k * 15 + 10, none⟩ = some (I gi) ∧ w'.cell? ⟨b, off + k * 15 + 11, none⟩ = some (I li) ∧ w'.cell? ⟨b, off + k * 15 + 12, none⟩ = some (I si) ∧ w'.cell? ⟨b, off + k * 15 + 13, none⟩ = some (I am) ∧ w'.cell? ⟨b, off + k * 15 + 14, none⟩ = some (I an)) (go_keep)
          (first
            | (go_at_call 34; refine (unhide HTm wr.drew).mono ?_; rintro e u1 ⟨x', rfl, G1⟩; have HZ1 := hide ((unhide HZ).2.drew.below (unhide G1).2.2); obtain ⟨b0, b1, b2, b3⟩ := (unhide HZ1).cb; obtain ⟨x0, x1, x2, x3, x4, x5, x6, x7, x8, x9, x10, x11, x12, x13, x14⟩ := unhide HK u1 (unhide HZ1).s.be)
            | (go_at_call 26; refine (do_any (unhide HZ1).s (by omega) (by omega) x' (unhide G1).2.1).mono ?_; rintro e u2 ⟨rfl, G2⟩; have HZ2 : Hid (∃ T' M' rs', Inv T' M' ∧ Bz t m r R l0 l1 yb yc cu cg (1 + 4 * k + 4) ((k : Int) + 1) V u2 T' M' rs') := hide (by
                obtain ⟨T', M', rs', g1, g2, g3⟩ := unhide G2
                exact ⟨T', M', rs', (unhide HZ).1.step (unhide G1).1 g1, (unhide HZ1).step g2 g3⟩); obtain ⟨b0, b1, b2, b3⟩ := bz_cb (unhide HZ2); obtain ⟨x0, x1, x2, x3, x4, x5, x6, x7, x8, x9, x10, x11, x12, x13, x14⟩ := unhide HK u2 (bz_be (unhide HZ2))))
        all_goals
          go_wp2_with fail
          obtain ⟨T', M', rs', i1, i2⟩ := unhide HZ2
          exact ⟨⟨k + 1, T', M', rs', by simp, by omega, by omega, hide ⟨i1, by simpa [Nat.mul_add, Nat.add_assoc] using i2⟩⟩, by simp [intOf]; omega⟩
      · by_cases hl : k < len
        · have j1 : (k : Int) < (len : Int) := by omega
          obtain rfl : k = 50 := by omega
          go_wp2_with fail
          go_meet
          case rel => exact ⟨T, M, rs, (unhide HZ).1, (unhide HZ).2⟩
        · have j1 : ¬ ((k : Int) < (len : Int)) := by omega
          go_wp2_with fail
          go_meet
          case rel => exact ⟨T, M, rs, (unhide HZ).1, bz_mono (unhide HZ).2 (by omega) (by omega)⟩
  case rest =>
    clear HZ HA
    obtain ⟨T, M, rs, hI, Z⟩ := hcut
    have HI := hide hI
    have HZ := hide Z
    have HP := hide (path_any pb len2 cap2 wc ((unhide HI2).below (Below.mono ((unhide HB).trans (Z.s.be.mono (unhide HB).size)) (Nat.le_refl _))))
    clear hI Z HI2
    go_wp2_with fail
    refine (unhide HP).mono ?_
    rintro e w5 ⟨s, rfl, hs, B5⟩
    have HZ5 := hide ((unhide HZ).below B5)
    clear HZ HP B5
    obtain ⟨st, hst⟩ : ∃ n, ((Eb T M cu cg fo).walk 0 1 s.data.toList).steps = n := ⟨_, rfl⟩
    obtain ⟨Re, hRe⟩ : ∃ n, (Eb T M cu cg fo).walk 0 1 s.data.toList = n := ⟨_, rfl⟩
    have hb1 := (Wl.walk_steps ((unhide HI).short cu cg fo) 0 1 s.data.toList)
    rw [hst] at hb1
    have HST := hide hst
    have HRE := hide hRe
    obtain ⟨hb1, hb2⟩ := hb1
    rw [hRe] at hb2
    have h32 : Hid (Re.why = 32 → s.data.toList = [] ∨ 0 < st) := hide hb2
    have hle : (st : Int) ≤ (s.size : Int) + 1 + 480 := by
      have : s.data.toList.length = s.size := Array.length_toList
      omega
    have hle0 : (0 : Int) ≤ (st : Int) := by omega
    clear hst hRe hb1 hb2
    obtain ⟨b0, b1, -, -⟩ := (unhide HZ5).cb
    obtain ⟨c0, c1⟩ := (unhide HZ5).cc
    go_upto_region 9 with fail
    go_cut [13] from 41 to 50 (fun v wd => v = I (st : Int) ∧ Bz t m r R l0 l1 yb yc cu cg 201 50 V wd T M rs)
    case first =>
      go_region_held3 (fun w' => w'.cell? ⟨yb, 0, none⟩ = some (P0 t) ∧ w'.cell? ⟨yb, 1, none⟩ = some (P0 m) ∧ w'.cell? ⟨yc, 0, none⟩ = some (I cu) ∧ w'.cell? ⟨yc, 1, none⟩ = some (I cg)) (go_keep)
        (first
          | (go_at_call 28; refine (unhide HTop _).mono ?_; rintro e z1 ⟨rfl, hz1⟩; first | (have HZ7 := hide ((unhide HZ6).below hz1); obtain ⟨b0, b1, -, -⟩ := (unhide HZ7).cb; obtain ⟨c0, c1⟩ := (unhide HZ7).cc) | (have HZ6 := hide ((unhide HZ5).drew.below hz1); obtain ⟨b0, b1, -, -⟩ := (unhide HZ6).cb; obtain ⟨c0, c1⟩ := (unhide HZ6).cc))
          | (go_at_call 31; refine (steps_B (unhide HZ7) (by omega) (unhide HI) 0 1 (by decide) s fo st (unhide HST)).mono ?_; rintro e z3 ⟨rfl, hz3⟩; have HZ8 := hide ((unhide HZ7).below hz3); obtain ⟨b0, b1, -, -⟩ := (unhide HZ8).cb; obtain ⟨c0, c1⟩ := (unhide HZ8).cc))
      all_goals
        go_wp2_with fail
        go_meet
        case rel => exact ⟨rfl, unhide HZ8⟩
    case rest =>
      clear b0 b1 c0 c1 HZ5
      obtain ⟨rfl, Z9⟩ := hcut
      have HZ5 := hide Z9
      clear Z9
      obtain ⟨b0, b1, -, -⟩ := (unhide HZ5).cb
      obtain ⟨c0, c1⟩ := (unhide HZ5).cc
      obtain ⟨F1, F2, F3, F4, F5, F6, F7, why, hFF⟩ : ∃ (F1 F2 : Int) (F3 : ByteArray) (F4 F5 : Int) (F6 F7 : Bool) (why : Int), (Re.f.dm = F1 ∧ Re.f.dn = F2 ∧ Wl.bs Re.f.last = F3 ∧ Re.f.am = F4 ∧ Re.f.an = F5 ∧ Re.f.has = F6 ∧ Re.f.slash = F7 ∧ Re.why = why) := ⟨_, _, _, _, _, _, _, _, rfl, rfl, rfl, rfl, rfl, rfl, rfl, rfl⟩
      have HWk : Hid (∀ W', Bz t m r R l0 l1 yb yc cu cg 201 50 V W' T M rs → Calls Tryz.prog 27 #[P0 t, P0 m, .agg #[I 0, I 1], .agg #[I 0, I 1], .agg #[I cu, I cg], .string s, .bool fo] W' fun e w' => e = .returned (.tuple #[.agg #[I F1, I F2, .string F3, I F4, I F5, .bool F6, .bool F7], I why]) ∧ Below W'.heap.size W' w') := hide fun W' Z => by
        have h := walk_B Z (by omega) (unhide HI) 0 1 (by decide) s fo Re (unhide HRE)
        obtain ⟨rfl, rfl, rfl, rfl, rfl, rfl, rfl, rfl⟩ := hFF
        exact h
      rw [hFF.2.2.2.2.2.2.2] at h32
      clear hFF HRE HST HI
      go_upto_region 10 with fail
      have HY := hide (unhide HZ5).drew
      have n1 := (unhide HY).yb_ne
      have n2 := (unhide HY).yc_ne
      go_cut [14, 15] from 51 to 63 (fun _ v wd => v = I why ∧ Below V.heap.size V wd)
      case first =>
        go_region_held3 (fun w' => w'.cell? ⟨yb, 0, none⟩ = some (P0 t) ∧ w'.cell? ⟨yb, 1, none⟩ = some (P0 m) ∧ w'.cell? ⟨yc, 0, none⟩ = some (I cu) ∧ w'.cell? ⟨yc, 1, none⟩ = some (I cg)) (go_keep)
          (first
            | (go_at_call 28; refine (unhide HTop _).mono ?_; rintro e z1 ⟨rfl, hz⟩; (first | (have HF := hide ((unhide HF).below hz)) | (have HF := hide (bf_new_d (unhide HZ5) hz)) | (have HF := hide (bf_new (unhide HY) hz)) | (have HY := hide ((unhide HY).below hz))); first | (obtain ⟨b0, b1, -, -⟩ := (unhide HF).z.cb; obtain ⟨c0, c1⟩ := (unhide HF).z.cc; skip) | (obtain ⟨b0, b1, -, -⟩ := (unhide HY).cb; obtain ⟨c0, c1⟩ := (unhide HY).cc; have n1 := (unhide HY).yb_ne; have n2 := (unhide HY).yc_ne))
            | (go_at_call 27; refine (unhide HWk _ ?_).mono ?_; (first | exact (unhide HF).z | exact unhide HY | exact (unhide HY).below ((Below.refl _ _).alloc (Nat.le_refl _) _)); rintro e z3 ⟨rfl, hz⟩; (first | (have HF := hide ((unhide HF).below hz)) | (have HF := hide (bf_new_d (unhide HZ5) hz)) | (have HF := hide (bf_new (unhide HY) hz)) | (have HY := hide ((unhide HY).below hz))); first | (obtain ⟨b0, b1, -, -⟩ := (unhide HF).z.cb; obtain ⟨c0, c1⟩ := (unhide HF).z.cc; obtain ⟨X1, X2, X3, X4, X5, X6, X7, ⟨e1, e2, e3, e4, e5, e6, e7⟩, ⟨g0, g1, g2, g3, g4, g5, g6⟩, ⟨k0, k1, k2, k3, k4, k5, k6⟩, ⟨y0, y1, y2, y3⟩, HX7⟩ := (unhide HF).store F1 F2 F3 F4 F5 F6 F7) | (obtain ⟨b0, b1, -, -⟩ := (unhide HY).cb; obtain ⟨c0, c1⟩ := (unhide HY).cc; obtain ⟨A0, hA0, HFA⟩ := bz_alloc (unhide HY); obtain ⟨b0, b1, -, -⟩ := HFA.z.cb; obtain ⟨c0, c1⟩ := HFA.z.cc; obtain ⟨X1, X2, X3, X4, X5, X6, X7, ⟨e1, e2, e3, e4, e5, e6, e7⟩, ⟨g0, g1, g2, g3, g4, g5, g6⟩, ⟨k0, k1, k2, k3, k4, k5, k6⟩, ⟨y0, y1, y2, y3⟩, HX7⟩ := HFA.store F1 F2 F3 F4 F5 F6 F7; clear HFA)))
        all_goals
          go_wp2_with fail
          go_meet
          case rel => exact ⟨rfl, unhide HX7⟩
      case rest =>
        obtain ⟨rfl, B9⟩ := hcut
        have HB9 := hide B9
        clear B9 HZ5 HWk b0 b1 c0 c1
        have HE : Hid (∀ W', Below wc.heap.size wc W' → Below w.heap.size w W') := hide fun W' g => ((unhide HB).trans ((unhide HB9).mono (unhide HB).size)).trans (g.mono (by have := (unhide HB).size; have := (unhide HB9).size; omega))
        by_cases hy : why = 32
        · subst hy
          by_cases h0 : s = ⟨#[]⟩
          · subst h0
            go_wp2_with (go_at_call 33; refine (unhide HKn _).mono ?_; rintro e z5 ⟨rfl, hz5⟩)
            go_ret
            exact ⟨rfl, unhide HE _ hz5⟩
          · have hs0 : 0 < st := by
              rcases unhide h32 rfl with h1 | h1
              · exact absurd (ByteArray.ext (Array.ext' h1)) h0
              · exact h1
            have hs1 : (0 : Int) < (st : Int) := by omega
            have ht5 : ¬ s.toList = [] := fun e => by
              rw [ByteArray.toList_eq] at e
              exact h0 (ByteArray.ext (Array.ext' e))
            have ht4 : (s.toList == ([] : List UInt8)) = false := by rw [beq_eq_false_iff_ne]; exact ht5
            have ht7 : s.toList.isEmpty = false := by simpa using ht5
            go_wp2_with (go_at_call 33; refine (unhide HKn _).mono ?_; rintro e z5 ⟨rfl, hz5⟩)
            go_ret
            exact ⟨rfl, unhide HE _ hz5⟩
        · have hy1 : (why == 32) = false := by simpa using hy
          have hy2 : (why != 32) = true := by simpa using hy
          go_wp2_with (go_at_call 33; refine (unhide HKn _).mono ?_; rintro e z5 ⟨rfl, hz5⟩)
          go_ret
          exact ⟨rfl, unhide HE _ hz5⟩
end Go.Proofs.YtlngeaacjbdmhaaGreat.Bt
