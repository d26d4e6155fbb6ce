/-
  The law's own `one`: a call of both trees.
-/
import Derived.Test.YtlngeaacjbdmhaaGreatQp35
import Derived.BigRegion
import Derived.Test.YtlngeaacjbdmhaaGreatQp15
namespace Go.Proofs.YtlngeaacjbdmhaaGreat.Bo
open Go.RowKit Bt
attribute [local go_sem ↓] Go.wp_at_zero Go.wp_at_succ
theorem own_weak {W : World} {base base' k : Nat} {e : TypeId} {v : Value} {n : Nat} {xs : List Value} (h : W.ownsRow base e k v n xs) (hb : base' ≤ base) : W.ownsRow base' e k v n xs := by
  obtain ⟨h1, h2 | ⟨g, cap, cur, h3, h4, h5⟩⟩ := h
  · exact ⟨h1, .inl h2⟩
  · exact ⟨h1, .inr ⟨g, cap, cur, h3, Nat.le_trans hb h4, h5⟩⟩
theorem Rq_weak {base base' lim n : Nat} {W : World} {q : Nat} {s : S} (h : Rb.Rq base lim n W q s) (hb : base' ≤ base) : Rb.Rq base' lim n W q s := by
  obtain ⟨Lv, fb, bv, h⟩ := h
  exact ⟨Lv, fb, bv, h.hq, own_weak h.hL hb, fun i x hx => ⟨(h.hx i x hx).hc, own_weak (h.hx i x hx).hb hb, ⟨Nat.le_trans hb (h.hx i x hx).lc.1, (h.hx i x hx).lc.2⟩, (h.hx i x hx).lb, (h.hx i x hx).ok⟩, h.dc, ⟨Nat.le_trans hb h.lq.1, h.lq.2⟩, h.lL, ⟨Nat.le_trans hb h.ll.1, h.ll.2⟩⟩
theorem Dq_weak {lo lo' N : Nat} {W : World} {r : Nat} {T : Tr} (h : Rf.Dq lo N W r T) (hb : lo' ≤ lo) : Rf.Dq lo' N W r T := by
  obtain ⟨p, Lv, nb, ev, uv, h, hu⟩ := h
  exact ⟨p, Lv, nb, ev, uv, ⟨h.ht, own_weak h.hL hb, fun k x hx => ⟨(h.hn k x hx).1, own_weak (h.hn k x hx).2 hb⟩, h.dn, Rq_weak h.pl hb, ⟨Nat.le_trans hb h.bd.1, Nat.le_trans hb h.bd.2.1, fun k x hx => Nat.le_trans hb (h.bd.2.2 k x hx)⟩⟩, hu⟩
structure Aq where
  kd : Int
  dr : Int
  tq : Int
  n : Int
  s : ByteArray
  r : ByteArray
  a0 : Int
  a1 : Int
  a2 : Int
  a3 : Int
  a4 : Int
  a5 : Int
  a6 : Int
  ba : Option Addr
  bn : Nat
  bc : Nat
def Aq.cs (x : Aq) (m : Nat) : Array Value := #[I x.kd, I x.dr, I x.tq, I x.n, .string x.s, .string x.r, I x.a0, I x.a1, I x.a2, I x.a3, I x.a4, I x.a5, I x.a6, .slice x.ba m x.bc]
structure Aq.Ok (x : Aq) : Prop where
  dr : (kl x.dr).wf = true
  tq : (kl x.tq).wf = true
  n : (kl x.n).wf = true
  s : x.s.size ≤ 281474976710656
  r : x.r.size ≤ 281474976710656
theorem own_ask : own 36 := by unfold own tyA Rf.rty tyC tyD; decide
structure Bq (t r l0 N yx : Nat) (x : Aq) (m : Nat) (B : Nat) (w W0 W : World) (T T2 : Tr) : Prop where
  s : Bo t r l0 w.heap.size N B w W T T2
  hx : W.heap[yx]? = some (.cells (x.cs m) 36)
  kp : Kp W0 W
section
variable {t r l0 N yx m B B' : Nat} {x : Aq} {w W0 W W' : World} {T T' T2 T2' : Tr}
theorem Bq.step (h : Bq t r l0 N yx x m B w W0 W T T2) (g : Bo t r l0 w.heap.size N B' w W' T' T2' ∧ Kp W W') : Bq t r l0 N yx x m B' w W0 W' T' T2' := ⟨g.1, g.2 _ _ _ _ h.hx own_ask, h.kp.trans g.2⟩
theorem Bq.below (h : Bq t r l0 N yx x m B w W0 W T T2) (g : Below W.heap.size W W') : Bq t r l0 N yx x m B w W0 W' T T2 := h.step ⟨h.s.below g, Bx.kpb g⟩
theorem Bq.drew (h : Bq t r l0 N yx x m B w W0 W T T2) : Bq t r l0 N yx x m B w W0 W.drew T T2 := h.below ⟨rfl, rfl, rfl, Nat.le_refl _, fun _ _ => rfl⟩
theorem Bq.cx (h : Bq t r l0 N yx x m B w W0 W T T2) : W.cell? ⟨yx, 0, none⟩ = some (I x.kd) ∧ W.cell? ⟨yx, 1, none⟩ = some (I x.dr) ∧ W.cell? ⟨yx, 2, none⟩ = some (I x.tq) ∧ W.cell? ⟨yx, 3, none⟩ = some (I x.n) ∧ W.cell? ⟨yx, 4, none⟩ = some (.string x.s) ∧ W.cell? ⟨yx, 5, none⟩ = some (.string x.r) ∧ W.cell? ⟨yx, 6, none⟩ = some (I x.a0) ∧ W.cell? ⟨yx, 7, none⟩ = some (I x.a1) ∧ W.cell? ⟨yx, 8, none⟩ = some (I x.a2) ∧ W.cell? ⟨yx, 9, none⟩ = some (I x.a3) ∧ W.cell? ⟨yx, 10, none⟩ = some (I x.a4) ∧ W.cell? ⟨yx, 11, none⟩ = some (I x.a5) ∧ W.cell? ⟨yx, 12, none⟩ = some (I x.a6) ∧ W.cell? ⟨yx, 13, none⟩ = some (.slice x.ba m x.bc) := by
  refine ⟨?_, ?_, ?_, ?_, ?_, ?_, ?_, ?_, ?_, ?_, ?_, ?_, ?_, ?_⟩ <;> (rw [cell_of h.hx]; rfl)
def On1 (t r l0 N B : Nat) (w W w' : World) : Prop := ∃ T', Bo t r l0 w.heap.size N (B + 4) w w' T' T' ∧ Kp W w'
theorem Bq.cut (h : Bq t r l0 N yx x m B w W0 W T T2) (hy : w.heap.size ≤ yx) (hy0 : W0.heap.size ≤ yx) (k : Nat) : ∃ X, W.setCell ⟨yx, 13, none⟩ (.slice x.ba k x.bc) = X ∧ Hid (Bq t r l0 N yx x k B w W0 X T T2) := by
  have hk : ∀ b, b ≠ yx → (W.setCell ⟨yx, 13, none⟩ (.slice x.ba k x.bc)).heap[b]? = W.heap[b]? := fun b hb => Below.heap_setCell _ _ _ _ hb
  have ke : Ke (fun t => t = 36) W (W.setCell ⟨yx, 13, none⟩ (.slice x.ba k x.bc)) := ⟨by simp, fun b cs ty f e ht => (hk b (by
    rintro rfl
    rw [h.hx] at e
    injection e with e
    injection e with _ e2 _
    exact ht e2.symm)).trans e⟩
  refine ⟨_, rfl, ⟨⟨Tq_ke h.s.q ke (fun b es c e => hk b (by
      rintro rfl
      rw [h.hx] at e
      cases e)) (by rintro ty (rfl | rfl | rfl | rfl | rfl) <;> decide), Dq_ke h.s.d ke (by rintro ty (rfl | rfl | rfl | rfl | rfl | rfl | rfl | rfl) <;> decide), h.s.f, h.s.l, h.s.be.setCell (p := ⟨yx, 13, none⟩) hy _, h.s.le⟩, ?_, fun b cs ty f e ht => (hk b (by have := lt_of_heap e; omega)).trans (h.kp b cs ty f e ht)⟩⟩
  rw [heap_set h.hx]
  rfl
set_option maxRecDepth 100000 in
set_option maxHeartbeats 2000000 in
theorem one1 {g : Nat → Int} (S : Bo t r l0 w.heap.size N B w W T T) (hB : B ≤ 850) (hok : x.Ok) (hbc : x.bn ≤ x.bc ∧ x.bc ≤ 9223372036854775807) (hin : In w x.ba x.bn x.bc g) (hk : x.kd = 1) :
    Calls Tryz.prog 19 #[P0 t, P0 r, .agg (x.cs x.bn)] W fun e w' => e = .returned (.bool true) ∧ Hid (On1 t r l0 N B w W w') := by
  obtain ⟨V, hV, gV, hBV⟩ : ∃ V, W.alloc (.cells (x.cs x.bn) 36) = V ∧ V.heap[W.heap.size]? = some (.cells (x.cs x.bn) 36) ∧ Below W.heap.size W V := ⟨_, rfl, heap_alloc_new _ _, (Below.refl _ _).alloc (Nat.le_refl _) _⟩
  have HQ : Hid (Bq t r l0 N W.heap.size x x.bn B w W V T T) := hide ⟨S.below hBV, gV, Bx.kpb hBV⟩
  have HTo := hide S.tot
  obtain ⟨l, hl⟩ := S.q.f.ab x.tq
  obtain ⟨X, hX, HQX⟩ := (unhide HQ).cut S.be.size (Nat.le_refl _) 300
  unfold Aq.cs at hV ⊢
  have HIn0 := hide hin
  clear S gV hBV hin
  generalize hyx : W.heap.size = yx at HQ HQX hX
  obtain ⟨x0, x1, x2, x3, x4, x5, x6, x7, x8, x9, x10, x11, x12, x13⟩ := (unhide HQ).cx
  have xf : V.frozen? ⟨yx, 13, none⟩ = false := frozen_of (unhide HQ).hx 13
  rw [hk] at x0 hV ⊢
  go_enter Tryz.func19, Tryz.ntmps19
  go_upto_if 14 with fail
  clear hyx
  go_cut [] from 14 to 18 (fun wc => ∃ m, m ≤ 300 ∧ m ≤ x.bn ∧ Hid (Bq t r l0 N yx x m B w W wc T T))
  case first =>
    by_cases hb : 300 < x.bn
    · have j1 : (300 : Int) < (x.bn : Int) := by omega
      have j2 : (300 : Int) ≤ (x.bc : Int) := by omega
      have j3 : (300 : Int) ≤ (x.bn : Int) := by omega
      go_wp2_with fail
      go_meet
      case rel => exact ⟨300, by omega, by omega, HQX⟩
    · have j1 : ¬ (300 : Int) < (x.bn : Int) := by omega
      go_wp2_with fail
      go_meet
      case rel => exact ⟨x.bn, by omega, by omega, HQ⟩
  case rest =>
  clear HQ HQX hX hV xf x0 x1 x2 x3 x4 x5 x6 x7 x8 x9 x10 x11 x12 x13
  obtain ⟨m, hm1, hm2, HQ⟩ := hcut
  obtain ⟨Y, hY⟩ : ∃ Y, Y = wc := ⟨_, rfl⟩
  rw [← hY] at HQ ⊢
  clear hY wc
  have HIn := hide ((unhide HIn0).take hm2)
  obtain ⟨x0, x1, x2, x3, x4, x5, x6, x7, x8, x9, x10, x11, x12, x13⟩ := (unhide HQ).cx
  rw [hk] at x0
  obtain ⟨q1, hq1⟩ : ∃ q, T.makeN x.dr x.s x.a1 x.r = q := ⟨_, rfl⟩
  obtain ⟨q2, hq2⟩ : ∃ q, T.makeE x.dr x.s x.a1 x.r = q := ⟨_, rfl⟩
  have HQ1 := hide hq1
  have HQ2 := hide hq2
  have h6 : x.r.size ≤ 281474976710656 := by have := hok.r; omega
  clear hq1 hq2
  go_wp2_with (first
    | (go_at_call 62; refine (tMake (unhide HQ).s (by omega) hok.dr x.s x.a0 x.a1 x.a2 x.a3 x.a4 x.a5 x.a6 x.r h6).mono ?_; rintro e w1 ⟨rfl, G⟩; rw [unhide HQ1, unhide HQ2]; have HQ := hide ((unhide HQ).step (unhide G)); clear G; obtain ⟨x0, x1, x2, x3, x4, x5, x6, x7, x8, x9, x10, x11, x12, x13⟩ := (unhide HQ).cx; rw [hk] at x0)
    | (go_at_call 65; refine (dMake (unhide HQ).s (by omega) hok.dr x.s hok.s x.a0 x.a1 x.a2 x.a3 x.a4 x.a5 x.a6 x.r h6).mono ?_; rintro e w2 ⟨rfl, G⟩; rw [unhide HQ1, unhide HQ2]; have HQ := hide ((unhide HQ).step (unhide G)); clear G; obtain ⟨x0, x1, x2, x3, x4, x5, x6, x7, x8, x9, x10, x11, x12, x13⟩ := (unhide HQ).cx; rw [hk] at x0))
  go_ret
  exact ⟨rfl, hide ⟨_, (unhide HQ).s.mono (by omega), (unhide HQ).kp⟩⟩
set_option maxRecDepth 100000 in
set_option maxHeartbeats 2000000 in
theorem one2 {g : Nat → Int} (S : Bo t r l0 w.heap.size N B w W T T) (hB : B ≤ 850) (hok : x.Ok) (hbc : x.bn ≤ x.bc ∧ x.bc ≤ 9223372036854775807) (hin : In w x.ba x.bn x.bc g) (hk : x.kd = 2) :
    Calls Tryz.prog 19 #[P0 t, P0 r, .agg (x.cs x.bn)] W fun e w' => e = .returned (.bool true) ∧ Hid (On1 t r l0 N B w W w') := by
  obtain ⟨V, hV, gV, hBV⟩ : ∃ V, W.alloc (.cells (x.cs x.bn) 36) = V ∧ V.heap[W.heap.size]? = some (.cells (x.cs x.bn) 36) ∧ Below W.heap.size W V := ⟨_, rfl, heap_alloc_new _ _, (Below.refl _ _).alloc (Nat.le_refl _) _⟩
  have HQ : Hid (Bq t r l0 N W.heap.size x x.bn B w W V T T) := hide ⟨S.below hBV, gV, Bx.kpb hBV⟩
  have HTo := hide S.tot
  obtain ⟨l, hl⟩ := S.q.f.ab x.tq
  obtain ⟨X, hX, HQX⟩ := (unhide HQ).cut S.be.size (Nat.le_refl _) 300
  unfold Aq.cs at hV ⊢
  have HIn0 := hide hin
  clear S gV hBV hin
  generalize hyx : W.heap.size = yx at HQ HQX hX
  obtain ⟨x0, x1, x2, x3, x4, x5, x6, x7, x8, x9, x10, x11, x12, x13⟩ := (unhide HQ).cx
  have xf : V.frozen? ⟨yx, 13, none⟩ = false := frozen_of (unhide HQ).hx 13
  rw [hk] at x0 hV ⊢
  go_enter Tryz.func19, Tryz.ntmps19
  go_upto_if 14 with fail
  clear hyx
  go_cut [] from 14 to 18 (fun wc => ∃ m, m ≤ 300 ∧ m ≤ x.bn ∧ Hid (Bq t r l0 N yx x m B w W wc T T))
  case first =>
    by_cases hb : 300 < x.bn
    · have j1 : (300 : Int) < (x.bn : Int) := by omega
      have j2 : (300 : Int) ≤ (x.bc : Int) := by omega
      have j3 : (300 : Int) ≤ (x.bn : Int) := by omega
      go_wp2_with fail
      go_meet
      case rel => exact ⟨300, by omega, by omega, HQX⟩
    · have j1 : ¬ (300 : Int) < (x.bn : Int) := by omega
      go_wp2_with fail
      go_meet
      case rel => exact ⟨x.bn, by omega, by omega, HQ⟩
  case rest =>
  clear HQ HQX hX hV xf x0 x1 x2 x3 x4 x5 x6 x7 x8 x9 x10 x11 x12 x13
  obtain ⟨m, hm1, hm2, HQ⟩ := hcut
  obtain ⟨Y, hY⟩ : ∃ Y, Y = wc := ⟨_, rfl⟩
  rw [← hY] at HQ ⊢
  clear hY wc
  have HIn := hide ((unhide HIn0).take hm2)
  obtain ⟨x0, x1, x2, x3, x4, x5, x6, x7, x8, x9, x10, x11, x12, x13⟩ := (unhide HQ).cx
  rw [hk] at x0
  go_wp2_with fail
  have HQ := hide (unhide HQ).drew
  go_region_held3 (fun w' => w'.cell? ⟨yx, 1, none⟩ = some (I x.dr) ∧ w'.cell? ⟨yx, 2, none⟩ = some (I x.tq) ∧ w'.cell? ⟨yx, 4, none⟩ = some (.string x.s)) (go_keep)
    (first
      | (go_at_call 66; refine (tJoin (unhide HQ).s (by omega) hok.dr hok.tq x.s).mono ?_; rintro e w1 ⟨rfl, G⟩; have HQ := hide ((unhide HQ).step (unhide G)); clear G; obtain ⟨x0, x1, x2, x3, x4, x5, x6, x7, x8, x9, x10, x11, x12, x13⟩ := (unhide HQ).cx)
      | (go_at_call 67; refine (dJoin (unhide HQ).s (by omega) hok.dr hok.tq x.s hok.s).mono ?_; rintro e w1 ⟨rfl, G⟩; have HQ := hide ((unhide HQ).step (unhide G)); clear G; obtain ⟨x0, x1, x2, x3, x4, x5, x6, x7, x8, x9, x10, x11, x12, x13⟩ := (unhide HQ).cx))
  all_goals
    go_wp2_with fail
    go_ret
    exact ⟨rfl, hide ⟨_, (unhide HQ).s.mono (by omega), (unhide HQ).kp⟩⟩
set_option maxRecDepth 100000 in
set_option maxHeartbeats 2000000 in
theorem one3 {g : Nat → Int} (S : Bo t r l0 w.heap.size N B w W T T) (hB : B ≤ 850) (hok : x.Ok) (hbc : x.bn ≤ x.bc ∧ x.bc ≤ 9223372036854775807) (hin : In w x.ba x.bn x.bc g) (hk : x.kd = 3) :
    Calls Tryz.prog 19 #[P0 t, P0 r, .agg (x.cs x.bn)] W fun e w' => e = .returned (.bool true) ∧ Hid (On1 t r l0 N B w W w') := by
  obtain ⟨V, hV, gV, hBV⟩ : ∃ V, W.alloc (.cells (x.cs x.bn) 36) = V ∧ V.heap[W.heap.size]? = some (.cells (x.cs x.bn) 36) ∧ Below W.heap.size W V := ⟨_, rfl, heap_alloc_new _ _, (Below.refl _ _).alloc (Nat.le_refl _) _⟩
  have HQ : Hid (Bq t r l0 N W.heap.size x x.bn B w W V T T) := hide ⟨S.below hBV, gV, Bx.kpb hBV⟩
  have HTo := hide S.tot
  obtain ⟨l, hl⟩ := S.q.f.ab x.tq
  obtain ⟨X, hX, HQX⟩ := (unhide HQ).cut S.be.size (Nat.le_refl _) 300
  unfold Aq.cs at hV ⊢
  have HIn0 := hide hin
  clear S gV hBV hin
  generalize hyx : W.heap.size = yx at HQ HQX hX
  obtain ⟨x0, x1, x2, x3, x4, x5, x6, x7, x8, x9, x10, x11, x12, x13⟩ := (unhide HQ).cx
  have xf : V.frozen? ⟨yx, 13, none⟩ = false := frozen_of (unhide HQ).hx 13
  rw [hk] at x0 hV ⊢
  go_enter Tryz.func19, Tryz.ntmps19
  go_upto_if 14 with fail
  clear hyx
  go_cut [] from 14 to 18 (fun wc => ∃ m, m ≤ 300 ∧ m ≤ x.bn ∧ Hid (Bq t r l0 N yx x m B w W wc T T))
  case first =>
    by_cases hb : 300 < x.bn
    · have j1 : (300 : Int) < (x.bn : Int) := by omega
      have j2 : (300 : Int) ≤ (x.bc : Int) := by omega
      have j3 : (300 : Int) ≤ (x.bn : Int) := by omega
      go_wp2_with fail
      go_meet
      case rel => exact ⟨300, by omega, by omega, HQX⟩
    · have j1 : ¬ (300 : Int) < (x.bn : Int) := by omega
      go_wp2_with fail
      go_meet
      case rel => exact ⟨x.bn, by omega, by omega, HQ⟩
  case rest =>
  clear HQ HQX hX hV xf x0 x1 x2 x3 x4 x5 x6 x7 x8 x9 x10 x11 x12 x13
  obtain ⟨m, hm1, hm2, HQ⟩ := hcut
  obtain ⟨Y, hY⟩ : ∃ Y, Y = wc := ⟨_, rfl⟩
  rw [← hY] at HQ ⊢
  clear hY wc
  have HIn := hide ((unhide HIn0).take hm2)
  obtain ⟨x0, x1, x2, x3, x4, x5, x6, x7, x8, x9, x10, x11, x12, x13⟩ := (unhide HQ).cx
  rw [hk] at x0
  go_wp2_with fail
  have HQ := hide (unhide HQ).drew
  go_region_held3 (fun w' => w'.cell? ⟨yx, 1, none⟩ = some (I x.dr) ∧ w'.cell? ⟨yx, 4, none⟩ = some (.string x.s)) (go_keep)
    (first
      | (go_at_call 64; refine (tPart (unhide HQ).s (by omega) hok.dr x.s).mono ?_; rintro e w1 ⟨rfl, G⟩; have HQ := hide ((unhide HQ).step (unhide G)); clear G; obtain ⟨x0, x1, x2, x3, x4, x5, x6, x7, x8, x9, x10, x11, x12, x13⟩ := (unhide HQ).cx)
      | (go_at_call 68; refine (dPart (unhide HQ).s (by omega) hok.dr x.s).mono ?_; rintro e w1 ⟨rfl, G⟩; have HQ := hide ((unhide HQ).step (unhide G)); clear G; obtain ⟨x0, x1, x2, x3, x4, x5, x6, x7, x8, x9, x10, x11, x12, x13⟩ := (unhide HQ).cx))
  all_goals
    go_wp2_with fail
    go_ret
    exact ⟨rfl, hide ⟨_, (unhide HQ).s.mono (by omega), (unhide HQ).kp⟩⟩
set_option maxRecDepth 100000 in
set_option maxHeartbeats 2000000 in
theorem one4 {g : Nat → Int} (S : Bo t r l0 w.heap.size N B w W T T) (hB : B ≤ 850) (hok : x.Ok) (hbc : x.bn ≤ x.bc ∧ x.bc ≤ 9223372036854775807) (hin : In w x.ba x.bn x.bc g) (hk : x.kd = 4) :
    Calls Tryz.prog 19 #[P0 t, P0 r, .agg (x.cs x.bn)] W fun e w' => e = .returned (.bool true) ∧ Hid (On1 t r l0 N B w W w') := by
  obtain ⟨V, hV, gV, hBV⟩ : ∃ V, W.alloc (.cells (x.cs x.bn) 36) = V ∧ V.heap[W.heap.size]? = some (.cells (x.cs x.bn) 36) ∧ Below W.heap.size W V := ⟨_, rfl, heap_alloc_new _ _, (Below.refl _ _).alloc (Nat.le_refl _) _⟩
  have HQ : Hid (Bq t r l0 N W.heap.size x x.bn B w W V T T) := hide ⟨S.below hBV, gV, Bx.kpb hBV⟩
  have HTo := hide S.tot
  obtain ⟨l, hl⟩ := S.q.f.ab x.tq
  obtain ⟨X, hX, HQX⟩ := (unhide HQ).cut S.be.size (Nat.le_refl _) 300
  unfold Aq.cs at hV ⊢
  have HIn0 := hide hin
  clear S gV hBV hin
  generalize hyx : W.heap.size = yx at HQ HQX hX
  obtain ⟨x0, x1, x2, x3, x4, x5, x6, x7, x8, x9, x10, x11, x12, x13⟩ := (unhide HQ).cx
  have xf : V.frozen? ⟨yx, 13, none⟩ = false := frozen_of (unhide HQ).hx 13
  rw [hk] at x0 hV ⊢
  go_enter Tryz.func19, Tryz.ntmps19
  go_upto_if 14 with fail
  clear hyx
  go_cut [] from 14 to 18 (fun wc => ∃ m, m ≤ 300 ∧ m ≤ x.bn ∧ Hid (Bq t r l0 N yx x m B w W wc T T))
  case first =>
    by_cases hb : 300 < x.bn
    · have j1 : (300 : Int) < (x.bn : Int) := by omega
      have j2 : (300 : Int) ≤ (x.bc : Int) := by omega
      have j3 : (300 : Int) ≤ (x.bn : Int) := by omega
      go_wp2_with fail
      go_meet
      case rel => exact ⟨300, by omega, by omega, HQX⟩
    · have j1 : ¬ (300 : Int) < (x.bn : Int) := by omega
      go_wp2_with fail
      go_meet
      case rel => exact ⟨x.bn, by omega, by omega, HQ⟩
  case rest =>
  clear HQ HQX hX hV xf x0 x1 x2 x3 x4 x5 x6 x7 x8 x9 x10 x11 x12 x13
  obtain ⟨m, hm1, hm2, HQ⟩ := hcut
  obtain ⟨Y, hY⟩ : ∃ Y, Y = wc := ⟨_, rfl⟩
  rw [← hY] at HQ ⊢
  clear hY wc
  have HIn := hide ((unhide HIn0).take hm2)
  obtain ⟨x0, x1, x2, x3, x4, x5, x6, x7, x8, x9, x10, x11, x12, x13⟩ := (unhide HQ).cx
  rw [hk] at x0
  go_wp2_with fail
  have HQ := hide (unhide HQ).drew
  go_region_held3 (fun w' => w'.cell? ⟨yx, 1, none⟩ = some (I x.dr) ∧ w'.cell? ⟨yx, 2, none⟩ = some (I x.tq) ∧ w'.cell? ⟨yx, 4, none⟩ = some (.string x.s) ∧ w'.cell? ⟨yx, 5, none⟩ = some (.string x.r)) (go_keep)
    (first
      | (go_at_call 69; refine (tMove (unhide HQ).s (by omega) hok.dr hok.tq x.s x.r hl).mono ?_; rintro e w1 ⟨rfl, G⟩; have HQ := hide ((unhide HQ).step (unhide G)); clear G; obtain ⟨x0, x1, x2, x3, x4, x5, x6, x7, x8, x9, x10, x11, x12, x13⟩ := (unhide HQ).cx)
      | (go_at_call 70; refine (dMove (unhide HQ).s (by omega) hok.dr hok.tq x.s x.r hok.r hl).mono ?_; rintro e w1 ⟨rfl, G⟩; have HQ := hide ((unhide HQ).step (unhide G)); clear G; obtain ⟨x0, x1, x2, x3, x4, x5, x6, x7, x8, x9, x10, x11, x12, x13⟩ := (unhide HQ).cx))
  all_goals
    go_wp2_with fail
    go_ret
    exact ⟨rfl, hide ⟨_, (unhide HQ).s.mono (by omega), (unhide HQ).kp⟩⟩
set_option maxRecDepth 100000 in
set_option maxHeartbeats 2000000 in
theorem one5 {g : Nat → Int} (S : Bo t r l0 w.heap.size N B w W T T) (hB : B ≤ 850) (hok : x.Ok) (hbc : x.bn ≤ x.bc ∧ x.bc ≤ 9223372036854775807) (hin : In w x.ba x.bn x.bc g) (hk : x.kd = 5) :
    Calls Tryz.prog 19 #[P0 t, P0 r, .agg (x.cs x.bn)] W fun e w' => e = .returned (.bool true) ∧ Hid (On1 t r l0 N B w W w') := by
  obtain ⟨V, hV, gV, hBV⟩ : ∃ V, W.alloc (.cells (x.cs x.bn) 36) = V ∧ V.heap[W.heap.size]? = some (.cells (x.cs x.bn) 36) ∧ Below W.heap.size W V := ⟨_, rfl, heap_alloc_new _ _, (Below.refl _ _).alloc (Nat.le_refl _) _⟩
  have HQ : Hid (Bq t r l0 N W.heap.size x x.bn B w W V T T) := hide ⟨S.below hBV, gV, Bx.kpb hBV⟩
  have HTo := hide S.tot
  obtain ⟨l, hl⟩ := S.q.f.ab x.tq
  obtain ⟨X, hX, HQX⟩ := (unhide HQ).cut S.be.size (Nat.le_refl _) 300
  unfold Aq.cs at hV ⊢
  have HIn0 := hide hin
  clear S gV hBV hin
  generalize hyx : W.heap.size = yx at HQ HQX hX
  obtain ⟨x0, x1, x2, x3, x4, x5, x6, x7, x8, x9, x10, x11, x12, x13⟩ := (unhide HQ).cx
  have xf : V.frozen? ⟨yx, 13, none⟩ = false := frozen_of (unhide HQ).hx 13
  rw [hk] at x0 hV ⊢
  go_enter Tryz.func19, Tryz.ntmps19
  go_upto_if 14 with fail
  clear hyx
  go_cut [] from 14 to 18 (fun wc => ∃ m, m ≤ 300 ∧ m ≤ x.bn ∧ Hid (Bq t r l0 N yx x m B w W wc T T))
  case first =>
    by_cases hb : 300 < x.bn
    · have j1 : (300 : Int) < (x.bn : Int) := by omega
      have j2 : (300 : Int) ≤ (x.bc : Int) := by omega
      have j3 : (300 : Int) ≤ (x.bn : Int) := by omega
      go_wp2_with fail
      go_meet
      case rel => exact ⟨300, by omega, by omega, HQX⟩
    · have j1 : ¬ (300 : Int) < (x.bn : Int) := by omega
      go_wp2_with fail
      go_meet
      case rel => exact ⟨x.bn, by omega, by omega, HQ⟩
  case rest =>
  clear HQ HQX hX hV xf x0 x1 x2 x3 x4 x5 x6 x7 x8 x9 x10 x11 x12 x13
  obtain ⟨m, hm1, hm2, HQ⟩ := hcut
  obtain ⟨Y, hY⟩ : ∃ Y, Y = wc := ⟨_, rfl⟩
  rw [← hY] at HQ ⊢
  clear hY wc
  have HIn := hide ((unhide HIn0).take hm2)
  obtain ⟨x0, x1, x2, x3, x4, x5, x6, x7, x8, x9, x10, x11, x12, x13⟩ := (unhide HQ).cx
  rw [hk] at x0
  go_wp2_with fail
  have HQ := hide (unhide HQ).drew
  go_region_held3 (fun w' => w'.cell? ⟨yx, 1, none⟩ = some (I x.dr)) (go_keep)
    (first
      | (go_at_call 63; refine (tHold (unhide HQ).s (by omega) hok.dr).mono ?_; rintro e w1 ⟨rfl, G⟩; have HQ := hide ((unhide HQ).step (unhide G)); clear G; obtain ⟨x0, x1, x2, x3, x4, x5, x6, x7, x8, x9, x10, x11, x12, x13⟩ := (unhide HQ).cx)
      | (go_at_call 71; refine (dHold (unhide HQ).s (by omega) hok.dr).mono ?_; rintro e w1 ⟨rfl, G⟩; have HQ := hide ((unhide HQ).step (unhide G)); clear G; obtain ⟨x0, x1, x2, x3, x4, x5, x6, x7, x8, x9, x10, x11, x12, x13⟩ := (unhide HQ).cx))
  all_goals
    go_wp2_with fail
    go_ret
    exact ⟨rfl, hide ⟨_, (unhide HQ).s.mono (by omega), (unhide HQ).kp⟩⟩
set_option maxRecDepth 100000 in
set_option maxHeartbeats 2000000 in
theorem one6 {g : Nat → Int} (S : Bo t r l0 w.heap.size N B w W T T) (hB : B ≤ 850) (hok : x.Ok) (hbc : x.bn ≤ x.bc ∧ x.bc ≤ 9223372036854775807) (hin : In w x.ba x.bn x.bc g) (hk : x.kd = 6) :
    Calls Tryz.prog 19 #[P0 t, P0 r, .agg (x.cs x.bn)] W fun e w' => e = .returned (.bool true) ∧ Hid (On1 t r l0 N B w W w') := by
  obtain ⟨V, hV, gV, hBV⟩ : ∃ V, W.alloc (.cells (x.cs x.bn) 36) = V ∧ V.heap[W.heap.size]? = some (.cells (x.cs x.bn) 36) ∧ Below W.heap.size W V := ⟨_, rfl, heap_alloc_new _ _, (Below.refl _ _).alloc (Nat.le_refl _) _⟩
  have HQ : Hid (Bq t r l0 N W.heap.size x x.bn B w W V T T) := hide ⟨S.below hBV, gV, Bx.kpb hBV⟩
  have HTo := hide S.tot
  obtain ⟨l, hl⟩ := S.q.f.ab x.tq
  obtain ⟨X, hX, HQX⟩ := (unhide HQ).cut S.be.size (Nat.le_refl _) 300
  unfold Aq.cs at hV ⊢
  have HIn0 := hide hin
  clear S gV hBV hin
  generalize hyx : W.heap.size = yx at HQ HQX hX
  obtain ⟨x0, x1, x2, x3, x4, x5, x6, x7, x8, x9, x10, x11, x12, x13⟩ := (unhide HQ).cx
  have xf : V.frozen? ⟨yx, 13, none⟩ = false := frozen_of (unhide HQ).hx 13
  rw [hk] at x0 hV ⊢
  go_enter Tryz.func19, Tryz.ntmps19
  go_upto_if 14 with fail
  clear hyx
  go_cut [] from 14 to 18 (fun wc => ∃ m, m ≤ 300 ∧ m ≤ x.bn ∧ Hid (Bq t r l0 N yx x m B w W wc T T))
  case first =>
    by_cases hb : 300 < x.bn
    · have j1 : (300 : Int) < (x.bn : Int) := by omega
      have j2 : (300 : Int) ≤ (x.bc : Int) := by omega
      have j3 : (300 : Int) ≤ (x.bn : Int) := by omega
      go_wp2_with fail
      go_meet
      case rel => exact ⟨300, by omega, by omega, HQX⟩
    · have j1 : ¬ (300 : Int) < (x.bn : Int) := by omega
      go_wp2_with fail
      go_meet
      case rel => exact ⟨x.bn, by omega, by omega, HQ⟩
  case rest =>
  clear HQ HQX hX hV xf x0 x1 x2 x3 x4 x5 x6 x7 x8 x9 x10 x11 x12 x13
  obtain ⟨m, hm1, hm2, HQ⟩ := hcut
  obtain ⟨Y, hY⟩ : ∃ Y, Y = wc := ⟨_, rfl⟩
  rw [← hY] at HQ ⊢
  clear hY wc
  have HIn := hide ((unhide HIn0).take hm2)
  obtain ⟨x0, x1, x2, x3, x4, x5, x6, x7, x8, x9, x10, x11, x12, x13⟩ := (unhide HQ).cx
  rw [hk] at x0
  go_wp2_with fail
  have HQ := hide (unhide HQ).drew
  go_region_held3 (fun w' => w'.cell? ⟨yx, 1, none⟩ = some (I x.dr)) (go_keep)
    (first
      | (go_at_call 72; refine (tLoose (unhide HQ).s (by omega) hok.dr).mono ?_; rintro e w1 ⟨rfl, G⟩; have HQ := hide ((unhide HQ).step (unhide G)); clear G; obtain ⟨x0, x1, x2, x3, x4, x5, x6, x7, x8, x9, x10, x11, x12, x13⟩ := (unhide HQ).cx)
      | (go_at_call 73; refine (dLoose (unhide HQ).s (by omega) hok.dr).mono ?_; rintro e w1 ⟨rfl, G⟩; have HQ := hide ((unhide HQ).step (unhide G)); clear G; obtain ⟨x0, x1, x2, x3, x4, x5, x6, x7, x8, x9, x10, x11, x12, x13⟩ := (unhide HQ).cx))
  all_goals
    go_wp2_with fail
    go_ret
    exact ⟨rfl, hide ⟨_, (unhide HQ).s.mono (by omega), (unhide HQ).kp⟩⟩
set_option maxRecDepth 100000 in
set_option maxHeartbeats 2000000 in
theorem one7 {g : Nat → Int} (S : Bo t r l0 w.heap.size N B w W T T) (hB : B ≤ 850) (hok : x.Ok) (hbc : x.bn ≤ x.bc ∧ x.bc ≤ 9223372036854775807) (hin : In w x.ba x.bn x.bc g) (hk : x.kd = 7) :
    Calls Tryz.prog 19 #[P0 t, P0 r, .agg (x.cs x.bn)] W fun e w' => e = .returned (.bool true) ∧ Hid (On1 t r l0 N B w W w') := by
  obtain ⟨V, hV, gV, hBV⟩ : ∃ V, W.alloc (.cells (x.cs x.bn) 36) = V ∧ V.heap[W.heap.size]? = some (.cells (x.cs x.bn) 36) ∧ Below W.heap.size W V := ⟨_, rfl, heap_alloc_new _ _, (Below.refl _ _).alloc (Nat.le_refl _) _⟩
  have HQ : Hid (Bq t r l0 N W.heap.size x x.bn B w W V T T) := hide ⟨S.below hBV, gV, Bx.kpb hBV⟩
  have HTo := hide S.tot
  obtain ⟨l, hl⟩ := S.q.f.ab x.tq
  obtain ⟨X, hX, HQX⟩ := (unhide HQ).cut S.be.size (Nat.le_refl _) 300
  unfold Aq.cs at hV ⊢
  have HIn0 := hide hin
  clear S gV hBV hin
  generalize hyx : W.heap.size = yx at HQ HQX hX
  obtain ⟨x0, x1, x2, x3, x4, x5, x6, x7, x8, x9, x10, x11, x12, x13⟩ := (unhide HQ).cx
  have xf : V.frozen? ⟨yx, 13, none⟩ = false := frozen_of (unhide HQ).hx 13
  rw [hk] at x0 hV ⊢
  go_enter Tryz.func19, Tryz.ntmps19
  go_upto_if 14 with fail
  clear hyx
  go_cut [] from 14 to 18 (fun wc => ∃ m, m ≤ 300 ∧ m ≤ x.bn ∧ Hid (Bq t r l0 N yx x m B w W wc T T))
  case first =>
    by_cases hb : 300 < x.bn
    · have j1 : (300 : Int) < (x.bn : Int) := by omega
      have j2 : (300 : Int) ≤ (x.bc : Int) := by omega
      have j3 : (300 : Int) ≤ (x.bn : Int) := by omega
      go_wp2_with fail
      go_meet
      case rel => exact ⟨300, by omega, by omega, HQX⟩
    · have j1 : ¬ (300 : Int) < (x.bn : Int) := by omega
      go_wp2_with fail
      go_meet
      case rel => exact ⟨x.bn, by omega, by omega, HQ⟩
  case rest =>
  clear HQ HQX hX hV xf x0 x1 x2 x3 x4 x5 x6 x7 x8 x9 x10 x11 x12 x13
  obtain ⟨m, hm1, hm2, HQ⟩ := hcut
  obtain ⟨Y, hY⟩ : ∃ Y, Y = wc := ⟨_, rfl⟩
  rw [← hY] at HQ ⊢
  clear hY wc
  have HIn := hide ((unhide HIn0).take hm2)
  obtain ⟨x0, x1, x2, x3, x4, x5, x6, x7, x8, x9, x10, x11, x12, x13⟩ := (unhide HQ).cx
  rw [hk] at x0
  go_wp2_with fail
  have HQ := hide (unhide HQ).drew
  go_region_held3 (fun w' => w'.cell? ⟨yx, 1, none⟩ = some (I x.dr) ∧ w'.cell? ⟨yx, 3, none⟩ = some (I x.n)) (go_keep)
    (first
      | (go_at_call 40; refine (tSetMode (unhide HQ).s hok.dr x.n).mono ?_; rintro e w1 ⟨rfl, G⟩; have HQ := hide ((unhide HQ).step (unhide G)); clear G; obtain ⟨x0, x1, x2, x3, x4, x5, x6, x7, x8, x9, x10, x11, x12, x13⟩ := (unhide HQ).cx)
      | (go_at_call 41; refine (dSetMode (unhide HQ).s (by omega) hok.dr x.n).mono ?_; rintro e w1 ⟨rfl, G⟩; have HQ := hide ((unhide HQ).step (unhide G)); clear G; obtain ⟨x0, x1, x2, x3, x4, x5, x6, x7, x8, x9, x10, x11, x12, x13⟩ := (unhide HQ).cx))
  all_goals
    go_wp2_with fail
    go_ret
    exact ⟨rfl, hide ⟨_, (unhide HQ).s.mono (by omega), (unhide HQ).kp⟩⟩
set_option maxRecDepth 100000 in
set_option maxHeartbeats 2000000 in
theorem one8 {g : Nat → Int} (S : Bo t r l0 w.heap.size N B w W T T) (hB : B ≤ 850) (hok : x.Ok) (hbc : x.bn ≤ x.bc ∧ x.bc ≤ 9223372036854775807) (hin : In w x.ba x.bn x.bc g) (hk : x.kd = 8) :
    Calls Tryz.prog 19 #[P0 t, P0 r, .agg (x.cs x.bn)] W fun e w' => e = .returned (.bool true) ∧ Hid (On1 t r l0 N B w W w') := by
  obtain ⟨V, hV, gV, hBV⟩ : ∃ V, W.alloc (.cells (x.cs x.bn) 36) = V ∧ V.heap[W.heap.size]? = some (.cells (x.cs x.bn) 36) ∧ Below W.heap.size W V := ⟨_, rfl, heap_alloc_new _ _, (Below.refl _ _).alloc (Nat.le_refl _) _⟩
  have HQ : Hid (Bq t r l0 N W.heap.size x x.bn B w W V T T) := hide ⟨S.below hBV, gV, Bx.kpb hBV⟩
  have HTo := hide S.tot
  obtain ⟨l, hl⟩ := S.q.f.ab x.tq
  obtain ⟨X, hX, HQX⟩ := (unhide HQ).cut S.be.size (Nat.le_refl _) 300
  unfold Aq.cs at hV ⊢
  have HIn0 := hide hin
  clear S gV hBV hin
  generalize hyx : W.heap.size = yx at HQ HQX hX
  obtain ⟨x0, x1, x2, x3, x4, x5, x6, x7, x8, x9, x10, x11, x12, x13⟩ := (unhide HQ).cx
  have xf : V.frozen? ⟨yx, 13, none⟩ = false := frozen_of (unhide HQ).hx 13
  rw [hk] at x0 hV ⊢
  go_enter Tryz.func19, Tryz.ntmps19
  go_upto_if 14 with fail
  clear hyx
  go_cut [] from 14 to 18 (fun wc => ∃ m, m ≤ 300 ∧ m ≤ x.bn ∧ Hid (Bq t r l0 N yx x m B w W wc T T))
  case first =>
    by_cases hb : 300 < x.bn
    · have j1 : (300 : Int) < (x.bn : Int) := by omega
      have j2 : (300 : Int) ≤ (x.bc : Int) := by omega
      have j3 : (300 : Int) ≤ (x.bn : Int) := by omega
      go_wp2_with fail
      go_meet
      case rel => exact ⟨300, by omega, by omega, HQX⟩
    · have j1 : ¬ (300 : Int) < (x.bn : Int) := by omega
      go_wp2_with fail
      go_meet
      case rel => exact ⟨x.bn, by omega, by omega, HQ⟩
  case rest =>
  clear HQ HQX hX hV xf x0 x1 x2 x3 x4 x5 x6 x7 x8 x9 x10 x11 x12 x13
  obtain ⟨m, hm1, hm2, HQ⟩ := hcut
  obtain ⟨Y, hY⟩ : ∃ Y, Y = wc := ⟨_, rfl⟩
  rw [← hY] at HQ ⊢
  clear hY wc
  have HIn := hide ((unhide HIn0).take hm2)
  obtain ⟨x0, x1, x2, x3, x4, x5, x6, x7, x8, x9, x10, x11, x12, x13⟩ := (unhide HQ).cx
  rw [hk] at x0
  go_wp2_with fail
  have HQ := hide (unhide HQ).drew
  go_region_held3 (fun w' => w'.cell? ⟨yx, 1, none⟩ = some (I x.dr) ∧ w'.cell? ⟨yx, 2, none⟩ = some (I x.tq) ∧ w'.cell? ⟨yx, 3, none⟩ = some (I x.n)) (go_keep)
    (first
      | (go_at_call 74; refine (tSetOwner (unhide HQ).s hok.dr x.n x.tq).mono ?_; rintro e w1 ⟨rfl, G⟩; have HQ := hide ((unhide HQ).step (unhide G)); clear G; obtain ⟨x0, x1, x2, x3, x4, x5, x6, x7, x8, x9, x10, x11, x12, x13⟩ := (unhide HQ).cx)
      | (go_at_call 75; refine (dSetOwner (unhide HQ).s (by omega) hok.dr x.n x.tq).mono ?_; rintro e w1 ⟨rfl, G⟩; have HQ := hide ((unhide HQ).step (unhide G)); clear G; obtain ⟨x0, x1, x2, x3, x4, x5, x6, x7, x8, x9, x10, x11, x12, x13⟩ := (unhide HQ).cx))
  all_goals
    go_wp2_with fail
    go_ret
    exact ⟨rfl, hide ⟨_, (unhide HQ).s.mono (by omega), (unhide HQ).kp⟩⟩
set_option maxRecDepth 100000 in
set_option maxHeartbeats 2000000 in
theorem one9 {g : Nat → Int} (S : Bo t r l0 w.heap.size N B w W T T) (hB : B ≤ 850) (hok : x.Ok) (hbc : x.bn ≤ x.bc ∧ x.bc ≤ 9223372036854775807) (hin : In w x.ba x.bn x.bc g) (hk : x.kd = 9) :
    Calls Tryz.prog 19 #[P0 t, P0 r, .agg (x.cs x.bn)] W fun e w' => e = .returned (.bool true) ∧ Hid (On1 t r l0 N B w W w') := by
  obtain ⟨V, hV, gV, hBV⟩ : ∃ V, W.alloc (.cells (x.cs x.bn) 36) = V ∧ V.heap[W.heap.size]? = some (.cells (x.cs x.bn) 36) ∧ Below W.heap.size W V := ⟨_, rfl, heap_alloc_new _ _, (Below.refl _ _).alloc (Nat.le_refl _) _⟩
  have HQ : Hid (Bq t r l0 N W.heap.size x x.bn B w W V T T) := hide ⟨S.below hBV, gV, Bx.kpb hBV⟩
  have HTo := hide S.tot
  obtain ⟨l, hl⟩ := S.q.f.ab x.tq
  obtain ⟨X, hX, HQX⟩ := (unhide HQ).cut S.be.size (Nat.le_refl _) 300
  unfold Aq.cs at hV ⊢
  have HIn0 := hide hin
  clear S gV hBV hin
  generalize hyx : W.heap.size = yx at HQ HQX hX
  obtain ⟨x0, x1, x2, x3, x4, x5, x6, x7, x8, x9, x10, x11, x12, x13⟩ := (unhide HQ).cx
  have xf : V.frozen? ⟨yx, 13, none⟩ = false := frozen_of (unhide HQ).hx 13
  rw [hk] at x0 hV ⊢
  go_enter Tryz.func19, Tryz.ntmps19
  go_upto_if 14 with fail
  clear hyx
  go_cut [] from 14 to 18 (fun wc => ∃ m, m ≤ 300 ∧ m ≤ x.bn ∧ Hid (Bq t r l0 N yx x m B w W wc T T))
  case first =>
    by_cases hb : 300 < x.bn
    · have j1 : (300 : Int) < (x.bn : Int) := by omega
      have j2 : (300 : Int) ≤ (x.bc : Int) := by omega
      have j3 : (300 : Int) ≤ (x.bn : Int) := by omega
      go_wp2_with fail
      go_meet
      case rel => exact ⟨300, by omega, by omega, HQX⟩
    · have j1 : ¬ (300 : Int) < (x.bn : Int) := by omega
      go_wp2_with fail
      go_meet
      case rel => exact ⟨x.bn, by omega, by omega, HQ⟩
  case rest =>
  clear HQ HQX hX hV xf x0 x1 x2 x3 x4 x5 x6 x7 x8 x9 x10 x11 x12 x13
  obtain ⟨m, hm1, hm2, HQ⟩ := hcut
  obtain ⟨Y, hY⟩ : ∃ Y, Y = wc := ⟨_, rfl⟩
  rw [← hY] at HQ ⊢
  clear hY wc
  have HIn := hide ((unhide HIn0).take hm2)
  obtain ⟨x0, x1, x2, x3, x4, x5, x6, x7, x8, x9, x10, x11, x12, x13⟩ := (unhide HQ).cx
  rw [hk] at x0
  go_wp2_with fail
  have HQ := hide (unhide HQ).drew
  go_region_held3 (fun w' => w'.cell? ⟨yx, 1, none⟩ = some (I x.dr) ∧ w'.cell? ⟨yx, 3, none⟩ = some (I x.n) ∧ w'.cell? ⟨yx, 13, none⟩ = some (.slice x.ba m x.bc)) (go_keep)
    (first
      | (go_at_call 76; refine (tWrite (unhide HQ).s (by omega) hok.dr x.n hok.n x.ba m x.bc g (unhide HIn)).mono ?_; rintro e w1 ⟨rfl, G⟩; have HQ := hide ((unhide HQ).step (unhide G)); clear G; obtain ⟨x0, x1, x2, x3, x4, x5, x6, x7, x8, x9, x10, x11, x12, x13⟩ := (unhide HQ).cx)
      | (go_at_call 77; refine (dWrite (unhide HQ).s (by omega) (unhide HTo) hok.dr x.n x.ba m x.bc g (unhide HIn) rfl (unhide HQ).s.be (by omega)).mono ?_; rintro e w1 ⟨rfl, G⟩; have HQ := hide ((unhide HQ).step (unhide G)); clear G; obtain ⟨x0, x1, x2, x3, x4, x5, x6, x7, x8, x9, x10, x11, x12, x13⟩ := (unhide HQ).cx))
  all_goals
    go_wp2_with fail
    go_ret
    exact ⟨rfl, hide ⟨_, (unhide HQ).s.mono (by omega), (unhide HQ).kp⟩⟩
set_option maxRecDepth 100000 in
set_option maxHeartbeats 2000000 in
theorem one0 {g : Nat → Int} (S : Bo t r l0 w.heap.size N B w W T T) (hB : B ≤ 850) (hok : x.Ok) (hbc : x.bn ≤ x.bc ∧ x.bc ≤ 9223372036854775807) (hin : In w x.ba x.bn x.bc g) (h1 : ¬ x.kd = 1) (h2 : ¬ x.kd = 2) (h3 : ¬ x.kd = 3) (h4 : ¬ x.kd = 4) (h5 : ¬ x.kd = 5) (h6 : ¬ x.kd = 6) (h7 : ¬ x.kd = 7) (h8 : ¬ x.kd = 8) (h9 : ¬ x.kd = 9) :
    Calls Tryz.prog 19 #[P0 t, P0 r, .agg (x.cs x.bn)] W fun e w' => e = .returned (.bool true) ∧ Hid (On1 t r l0 N B w W w') := by
  obtain ⟨V, hV, gV, hBV⟩ : ∃ V, W.alloc (.cells (x.cs x.bn) 36) = V ∧ V.heap[W.heap.size]? = some (.cells (x.cs x.bn) 36) ∧ Below W.heap.size W V := ⟨_, rfl, heap_alloc_new _ _, (Below.refl _ _).alloc (Nat.le_refl _) _⟩
  have HQ : Hid (Bq t r l0 N W.heap.size x x.bn B w W V T T) := hide ⟨S.below hBV, gV, Bx.kpb hBV⟩
  have HTo := hide S.tot
  obtain ⟨l, hl⟩ := S.q.f.ab x.tq
  obtain ⟨X, hX, HQX⟩ := (unhide HQ).cut S.be.size (Nat.le_refl _) 300
  unfold Aq.cs at hV ⊢
  have HIn0 := hide hin
  clear S gV hBV hin
  generalize hyx : W.heap.size = yx at HQ HQX hX
  obtain ⟨x0, x1, x2, x3, x4, x5, x6, x7, x8, x9, x10, x11, x12, x13⟩ := (unhide HQ).cx
  have xf : V.frozen? ⟨yx, 13, none⟩ = false := frozen_of (unhide HQ).hx 13
  have q1 : (x.kd == 1) = false := by simpa using h1
  have q2 : (x.kd == 2) = false := by simpa using h2
  have q3 : (x.kd == 3) = false := by simpa using h3
  have q4 : (x.kd == 4) = false := by simpa using h4
  have q5 : (x.kd == 5) = false := by simpa using h5
  have q6 : (x.kd == 6) = false := by simpa using h6
  have q7 : (x.kd == 7) = false := by simpa using h7
  have q8 : (x.kd == 8) = false := by simpa using h8
  have q9 : (x.kd == 9) = false := by simpa using h9
  go_enter Tryz.func19, Tryz.ntmps19
  go_upto_if 14 with fail
  clear hyx
  go_cut [] from 14 to 18 (fun wc => ∃ m, m ≤ 300 ∧ m ≤ x.bn ∧ Hid (Bq t r l0 N yx x m B w W wc T T))
  case first =>
    by_cases hb : 300 < x.bn
    · have j1 : (300 : Int) < (x.bn : Int) := by omega
      have j2 : (300 : Int) ≤ (x.bc : Int) := by omega
      have j3 : (300 : Int) ≤ (x.bn : Int) := by omega
      go_wp2_with fail
      go_meet
      case rel => exact ⟨300, by omega, by omega, HQX⟩
    · have j1 : ¬ (300 : Int) < (x.bn : Int) := by omega
      go_wp2_with fail
      go_meet
      case rel => exact ⟨x.bn, by omega, by omega, HQ⟩
  case rest =>
  clear HQ HQX hX hV xf x0 x1 x2 x3 x4 x5 x6 x7 x8 x9 x10 x11 x12 x13
  obtain ⟨m, hm1, hm2, HQ⟩ := hcut
  obtain ⟨Y, hY⟩ : ∃ Y, Y = wc := ⟨_, rfl⟩
  rw [← hY] at HQ ⊢
  clear hY wc
  have HIn := hide ((unhide HIn0).take hm2)
  obtain ⟨x0, x1, x2, x3, x4, x5, x6, x7, x8, x9, x10, x11, x12, x13⟩ := (unhide HQ).cx
  go_wp2_with fail
  have HQ := hide (unhide HQ).drew
  go_region_held3 (fun w' => w'.cell? ⟨yx, 1, none⟩ = some (I x.dr) ∧ w'.cell? ⟨yx, 3, none⟩ = some (I x.n)) (go_keep)
    (first
      | (go_at_call 78; refine (tCut (unhide HQ).s (by omega) hok.dr x.n).mono ?_; rintro e w1 ⟨rfl, G⟩; have HQ := hide ((unhide HQ).step (unhide G)); clear G; obtain ⟨x0, x1, x2, x3, x4, x5, x6, x7, x8, x9, x10, x11, x12, x13⟩ := (unhide HQ).cx)
      | (go_at_call 79; refine (dCut (unhide HQ).s (by omega) hok.dr x.n).mono ?_; rintro e w1 ⟨rfl, G⟩; have HQ := hide ((unhide HQ).step (unhide G)); clear G; obtain ⟨x0, x1, x2, x3, x4, x5, x6, x7, x8, x9, x10, x11, x12, x13⟩ := (unhide HQ).cx))
  all_goals
    go_wp2_with fail
    go_ret
    exact ⟨rfl, hide ⟨_, (unhide HQ).s.mono (by omega), (unhide HQ).kp⟩⟩
theorem one_any {g : Nat → Int} (S : Bo t r l0 w.heap.size N B w W T T) (hB : B ≤ 850) (hok : x.Ok) (hbc : x.bn ≤ x.bc ∧ x.bc ≤ 9223372036854775807) (hin : In w x.ba x.bn x.bc g) :
    Calls Tryz.prog 19 #[P0 t, P0 r, .agg (x.cs x.bn)] W fun e w' => e = .returned (.bool true) ∧ Hid (On1 t r l0 N B w W w') := by
  by_cases h1 : x.kd = 1
  · exact one1 S hB hok hbc hin h1
  by_cases h2 : x.kd = 2
  · exact one2 S hB hok hbc hin h2
  by_cases h3 : x.kd = 3
  · exact one3 S hB hok hbc hin h3
  by_cases h4 : x.kd = 4
  · exact one4 S hB hok hbc hin h4
  by_cases h5 : x.kd = 5
  · exact one5 S hB hok hbc hin h5
  by_cases h6 : x.kd = 6
  · exact one6 S hB hok hbc hin h6
  by_cases h7 : x.kd = 7
  · exact one7 S hB hok hbc hin h7
  by_cases h8 : x.kd = 8
  · exact one8 S hB hok hbc hin h8
  by_cases h9 : x.kd = 9
  · exact one9 S hB hok hbc hin h9
  exact one0 S hB hok hbc hin h1 h2 h3 h4 h5 h6 h7 h8 h9
end
end Go.Proofs.YtlngeaacjbdmhaaGreat.Bo

namespace Go.Proofs.YtlngeaacjbdmhaaGreat
open Go.RowKit Go.Maps
theorem str_same (a : ByteArray) : (a.toList == a.toList) = true := by simp
set_option maxRecDepth 100000 in
set_option maxHeartbeats 1000000 in
theorem texts_same (W : World) (b1 o1 c1 b2 o2 c2 m : Nat) (xs : List ByteArray) (hl : xs.length = m) (hm : m ≤ 1000) (h1 : ∀ i x, xs[i]? = some x → W.cell? ⟨b1, o1 + i, none⟩ = some (.string x)) (h2 : ∀ i x, xs[i]? = some x → W.cell? ⟨b2, o2 + i, none⟩ = some (.string x)) :
    Calls Tryz.prog 54 #[.slice (some ⟨b1, o1, none⟩) m c1, .slice (some ⟨b2, o2, none⟩) m c2] W fun e w' => e = .returned (.bool true) ∧ ∃ k, w' = W.drewN k := by
  have H1 := hide h1
  have H2 := hide h2
  have HL := hide hl
  clear h1 h2 hl
  go_enter Tryz.func54, Tryz.ntmps54
  go_wp2_with fail
  go_loopw [5] (fun i wr => ∃ k j : Nat, j ≤ m ∧ i = .int .i64 (j : Int) ∧ wr = W.drewN k) (fun i _ => m - (intOf i).toNat)
  case atStart => exact ⟨0, 0, Nat.zero_le _, rfl, rfl⟩
  case round =>
    obtain ⟨k, j, hj, rfl, rfl⟩ := hrel
    by_cases hlt : j < m
    · have l1 : (j : Int) < (m : Int) := by omega
      obtain ⟨x, hx⟩ : ∃ x, xs[j]? = some x := ⟨_, List.getElem?_eq_getElem (by have := unhide HL; omega)⟩
      have e1 : (W.drewN k).cell? ⟨b1, o1 + j, none⟩ = some (.string x) := unhide H1 j x hx
      have e2 : (W.drewN k).cell? ⟨b2, o2 + j, none⟩ = some (.string x) := unhide H2 j x hx
      have hs := str_same x
      have e10 : W.cell? ⟨b1, o1 + j, none⟩ = some (.string x) := e1
      have e20 : W.cell? ⟨b2, o2 + j, none⟩ = some (.string x) := e2
      have e1d : (W.drewN k).drew.cell? ⟨b1, o1 + j, none⟩ = some (.string x) := e1
      have e2d : (W.drewN k).drew.cell? ⟨b2, o2 + j, none⟩ = some (.string x) := e2
      clear hx
      go_wp2_with fail
      go_region
      all_goals go_wp2_with fail
      all_goals exact ⟨⟨k + 1, j + 1, by omega, by go_num, rfl⟩, by simp [intOf]; omega⟩
    · obtain rfl : j = m := by omega
      go_wp2_with fail
      go_ret
      exact ⟨rfl, k, rfl⟩
end Go.Proofs.YtlngeaacjbdmhaaGreat
