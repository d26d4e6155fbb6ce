/-
  The contracts of the document's Open and Close, told by the files that are open.
-/
import Derived.Test.YtocaonbmijmbmaaRefC
namespace Go.Proofs.Ytocaonbmijmbmaa
open Go.RowKit Go.Shelf
attribute [local go_sem ↓] Go.wp_at_zero Go.wp_at_succ

/-- A file is written over in the document's table. -/
theorem put4 {W : World} {r n : Nat} {F : Nat → Op} {B : Nat → Bool} (h : W.heap[r]? = some (.cells (rc n F B) 72)) {q k : Nat} (hq : q < 8) (hk : k < 8) (o : Op) :
    ∃ X1 X2 X3 X4 : World, (W.setCell ⟨r, 1 + q * 32 + k * 4, none⟩ (I o.m) = X1 ∧ X1.setCell ⟨r, 1 + q * 32 + k * 4 + 1, none⟩ (I o.n) = X2 ∧ X2.setCell ⟨r, 1 + q * 32 + k * 4 + 2, none⟩ (I o.f) = X3 ∧ X3.setCell ⟨r, 1 + q * 32 + k * 4 + 3, none⟩ (I o.s) = X4) ∧
      (∃ v0 v1 v2 v3 : Int, W.cell? ⟨r, 1 + q * 32 + k * 4, none⟩ = some (I v0) ∧ X1.cell? ⟨r, 1 + q * 32 + k * 4 + 1, none⟩ = some (I v1) ∧ X2.cell? ⟨r, 1 + q * 32 + k * 4 + 2, none⟩ = some (I v2) ∧ X3.cell? ⟨r, 1 + q * 32 + k * 4 + 3, none⟩ = some (I v3)) ∧
      (W.frozen? ⟨r, 1 + q * 32 + k * 4, none⟩ = false ∧ X1.frozen? ⟨r, 1 + q * 32 + k * 4 + 1, none⟩ = false ∧ X2.frozen? ⟨r, 1 + q * 32 + k * 4 + 2, none⟩ = false ∧ X3.frozen? ⟨r, 1 + q * 32 + k * 4 + 3, none⟩ = false) ∧
      X4.heap[r]? = some (.cells (rc n (up F (q * 8 + k) o) B) 72) ∧ Fr r W X4 ∧ X4.heap.size = W.heap.size := by
  have hi : q * 8 + k < 64 := by omega
  have e0 : 1 + q * 32 + k * 4 = 1 + (q * 8 + k) * 4 := by omega
  rw [e0]
  generalize q * 8 + k = i at *
  have h1 := (heap_set h (1 + i * 4) (I o.m)).trans (congrArg (fun x => some (Obj.cells x 72)) (rc_setf n F B i 0 (I o.m) { F i with m := o.m } hi (by omega) rfl))
  have h2 := (heap_set h1 (1 + i * 4 + 1) (I o.n)).trans (congrArg (fun x => some (Obj.cells x 72)) (rc_setf n _ B i 1 (I o.n) { F i with m := o.m, n := o.n } hi (by omega) (by rw [up_same]; rfl)))
  have h3 := (heap_set h2 (1 + i * 4 + 2) (I o.f)).trans (congrArg (fun x => some (Obj.cells x 72)) (rc_setf n _ B i 2 (I o.f) { F i with m := o.m, n := o.n, f := o.f } hi (by omega) (by rw [up_same]; rfl)))
  have h4 := (heap_set h3 (1 + i * 4 + 3) (I o.s)).trans (congrArg (fun x => some (Obj.cells x 72)) (rc_setf n _ B i 3 (I o.s) o hi (by omega) (by rw [up_same]; rfl)))
  refine ⟨_, _, _, _, ⟨rfl, rfl, rfl, rfl⟩, ⟨(F i).m, (F i).n, (F i).f, (F i).s, ?_, ?_, ?_, ?_⟩, ⟨frozen_of h _, frozen_of h1 _, frozen_of h2 _, frozen_of h3 _⟩, ?_, ?_, ?_⟩
  · rw [cell_of h]; exact rc_f n F B i 0 hi (by omega)
  · rw [cell_of h1, rc_f n _ B i 1 hi (by omega), up_same]; rfl
  · rw [cell_of h2, rc_f n _ B i 2 hi (by omega), up_same]; rfl
  · rw [cell_of h3, rc_f n _ B i 3 hi (by omega), up_same]; rfl
  · simp only [up_up] at h4; exact h4
  · exact ((((Fr.refl r W).set (p := ⟨r, 1 + i * 4, none⟩) rfl _).set (p := ⟨r, 1 + i * 4 + 1, none⟩) rfl _).set (p := ⟨r, 1 + i * 4 + 2, none⟩) rfl _).set (p := ⟨r, 1 + i * 4 + 3, none⟩) rfl _
  · simp [World.setCell]
theorem setb {W : World} {r n : Nat} {F : Nat → Op} {B : Nat → Bool} (h : W.heap[r]? = some (.cells (rc n F B) 72)) (q k : Nat) (b : Bool) :
    ∃ X, W.setCell ⟨r, 257 + q * 8 + k, none⟩ (.bool b) = X ∧ X.heap[r]? = some (.cells (rc n F (up B (q * 8 + k) b)) 72) ∧ Fr r W X ∧ X.heap.size = W.heap.size := by
  refine ⟨_, rfl, ?_, (Fr.refl r W).set (p := ⟨r, 257 + q * 8 + k, none⟩) rfl _, by simp [World.setCell]⟩
  rw [heap_set h, show 257 + q * 8 + k = 257 + (q * 8 + k) by omega, rc_setb]

set_option maxRecDepth 100000 in
set_option maxHeartbeats 1000000 in
theorem ropen_any (r n : Nat) (es : List Op) (p m kk f : Int) (F : Nat → Op) (B : Nat → Bool) (w : World) (h : Rt w r n F B) (hl : RL es F B) (hw : Wf es) (hn : es.length ≤ n) (h64 : n ≤ 64) :
    Calls Try.prog 16 #[.pointer (some ⟨r, 0, none⟩), I p, .agg #[I m, I kk], I f] w fun e w' => e = .returned (.tuple #[I (openA es n p), I (roomE es n p)]) ∧ (∃ F' B', Rt w' r n F' B' ∧ RL (openL es n p m kk f) F' B') ∧ Fr r w w' := by
  obtain ⟨V, hV, hv, hBV, hsV⟩ := place2 w m kk 29
  have hT := h.below hBV
  have hrl := h.lt
  have HR := hide (rroom_any r n es p F B V hT hl hw hn)
  have HV := hide hBV
  have Hv := hide hv
  have HT := hide hT
  by_cases he : roomE es n p = 0
  · obtain ⟨hp, h8, -⟩ := roomE_zero he
    obtain ⟨q, rfl, hq⟩ := isP_nat hp
    obtain ⟨l1, l2, l3⟩ := low_spec (q : Int) (Nat.le_trans hn h64)
    have hL8 : low es (q : Int) < 8 := by
      have := @Wf.open.cnt8 [] es hw (q : Int); omega
    have HG := hide (fun p' d' => getO_open (es := es) (n := n) (p := (q : Int)) (m := m) (k := kk) (f := f) (Nat.le_trans hn h64) he p' d')
    rw [show openA es n (q : Int) = (low es (q : Int) : Int) by unfold openA; rw [if_pos he], he]
    rw [he] at HR
    generalize openL es n (q : Int) m kk f = es' at *
    generalize low es (q : Int) = L at *
    have q1 : (q : Int) < 8 := by omega
    have q0 : (0 : Int) ≤ (q : Int) := by omega
    have HLq : Hid (∀ k, k < L → B (q * 8 + k) = true) := fun k hk => by rw [hl.b q k hq (by omega), ← getO_used]; exact l1 k hk
    have HLn : Hid (B (q * 8 + L) = false) := by show _ = _; rw [hl.b q L hq hL8, ← getO_used]; exact l2
    have HL := hide hl
    clear l1 l2 l3 h8 hp he h hl hw hT hBV hv
    go_enter Try.func16, Try.ntmps16
    go_wp2_with fail
    refine (unhide HR).mono ?_
    rintro e w1 ⟨rfl, hB1⟩
    have hT1 := (unhide HT).below hB1
    have hv1 := (hB1.block w.heap.size (by omega)).trans (unhide Hv)
    have hsz1 : w.heap.size < w1.heap.size := by have := hB1.size; omega
    have HF1 : Hid (Fr r w w1) := (Fr.of_below (unhide HV)).trans (Fr.of_below hB1)
    obtain ⟨g0, g1⟩ := cells2 hv1
    have HT1 := hide hT1
    have Hv1 := hide hv1
    clear hB1 HR hT1 HT Hv HV hV hsV hv1
    go_wp2_with fail
    go_loopw [11] (fun i wr => wr = w1 ∧ ∃ k : Nat, i = I k ∧ k ≤ L) (fun i _ => 8 - (intOf i).toNat)
    case atStart => exact ⟨rfl, 0, rfl, by omega⟩
    case round =>
      obtain ⟨rfl, k, rfl, hk⟩ := hrel
      have i1 : (k : Int) < 8 := by omega
      have i0 : (0 : Int) ≤ (k : Int) := by omega
      have c := (unhide HT1).b q k hq (by omega)
      by_cases hkL : k < L
      · rw [unhide HLq k hkL] at c
        go_wp2_with fail
        go_roundw
        case rel => exact ⟨trivial, k + 1, by go_num, by omega⟩
        case measure => simp [intOf]; omega
      · obtain rfl : k = L := by omega
        rw [unhide HLn] at c
        have cf := frozen_of (unhide HT1).hb (257 + q * 8 + k)
        obtain ⟨X, hX, hx, hFX, hsX⟩ := setb (unhide HT1).hb q k true
        have hne : w.heap.size ≠ r := by omega
        have hvX := (hFX.block w.heap.size hsz1 hne).trans (unhide Hv1)
        obtain ⟨a0, a1⟩ := cells2 hvX
        obtain ⟨X1, X2, X3, X4, ⟨e1, e2, e3, e4⟩, ⟨u0, u1, u2, u3, d0, d1, d2, d3⟩, ⟨z0, z1, z2, z3⟩, hx4, hF4, hs4⟩ := put4 hx hq hL8 ⟨(q : Int), (k : Int), m, kk, f, 0⟩
        have HE : Hid ((∃ F' B', Rt X4.drew r n F' B' ∧ RL es' F' B') ∧ Fr r w X4.drew) := by
          refine ⟨⟨_, _, ⟨hx4⟩, (unhide HL).turn hq hL8 (x := some ⟨(q : Int), (k : Int), m, kk, f, 0⟩) rfl (unhide HG)⟩, ((unhide HF1).trans (hFX.trans hF4)).drew⟩
        clear hx4 hF4 hs4 hx hFX hsX hvX g0 g1 HT1 Hv1 HLq HLn HL HG
        go_wp2_with fail
        go_region
        all_goals go_wp2_with fail
        all_goals go_ret2
        all_goals exact ⟨rfl, (unhide HE).1, (unhide HE).2⟩
  · rw [show openA es n p = 0 by unfold openA; rw [if_neg he], show openL es n p m kk f = es by unfold openL; rw [if_neg he]]
    have HE : Hid (∀ w1, Below V.heap.size V w1 → (∃ F' B', Rt w1 r n F' B' ∧ RL es F' B') ∧ Fr r w w1) := fun w1 hB => ⟨⟨F, B, hT.below hB, hl⟩, (Fr.of_below hBV).trans (Fr.of_below hB)⟩
    generalize roomE es n p = er at *
    clear h hl hw hT hBV hv HV Hv HT
    go_enter Try.func16, Try.ntmps16
    go_wp2_with fail
    refine (unhide HR).mono ?_
    rintro e w1 ⟨rfl, hB1⟩
    have H1 := hide hB1
    clear hB1 HR
    go_wp2_with fail
    go_ret2
    exact ⟨rfl, (unhide HE w1 (unhide H1)).1, (unhide HE w1 (unhide H1)).2⟩

set_option maxRecDepth 100000 in
set_option maxHeartbeats 1000000 in
theorem rclose_any (r n : Nat) (es : List Op) (p d : Int) (F : Nat → Op) (B : Nat → Bool) (w : World) (h : Rt w r n F B) (hl : RL es F B) (hw : Wf es) :
    Calls Try.prog 17 #[.pointer (some ⟨r, 0, none⟩), I p, I d] w fun e w' => e = .returned (.tuple #[Op.pv (getV es p d), I (findE es p d)]) ∧ (∃ F' B', Rt w' r n F' B' ∧ RL (closeL es p d) F' B') ∧ Fr r w w' := by
  obtain ⟨V, hV, hv, hBV, hsV⟩ := fresh2 w 29
  have hT := h.below hBV
  have hrl := h.lt
  have HN := hide (rcheck_any r n es p d F B V hT hl hw)
  by_cases he : findE es p d = 0
  · obtain ⟨q, k, rfl, rfl, hq, hk⟩ := find_nat hw he
    obtain ⟨f0, f1, f2, f3⟩ := hT.f q k hq hk
    have hfr := hl.f q k hq hk
    rw [← getV_eq hw] at hfr
    obtain ⟨g0, g1, g2, g3⟩ := frow_inj hfr
    rw [g0] at f0
    rw [g1] at f1
    rw [he] at HN
    have HG := hide (fun p' d' => getO_close hw he p' d')
    rw [he]
    generalize closeL es (q : Int) (k : Int) = es' at *
    generalize getV es (q : Int) (k : Int) = o at *
    have q1 : (q : Int) < 8 := by omega
    have q0 : (0 : Int) ≤ (q : Int) := by omega
    have k1 : (k : Int) < 8 := by omega
    have k0 : (0 : Int) ≤ (k : Int) := by omega
    obtain ⟨U, hU, hu, hBU, hsU⟩ := place2 V o.m o.n 29
    have hTU := hT.below hBU
    have c := hTU.b q k hq hk
    have cf := frozen_of hTU.hb (257 + q * 8 + k)
    obtain ⟨X, hX, hx, hFX, hsX⟩ := setb hTU.hb q k false
    obtain ⟨X1, X2, X3, X4, ⟨e1, e2, e3, e4⟩, ⟨u0, u1, u2, u3, d0, d1, d2, d3⟩, ⟨z0, z1, z2, z3⟩, hx4, hF4, hs4⟩ := put4 hx hq hk ⟨0, 0, 0, 0, 0, 0⟩
    have hFa : Fr r U X4 := hFX.trans hF4
    have hne1 : V.heap.size ≠ r := by have := hT.lt; omega
    have hne0 : w.heap.size ≠ r := by omega
    have huX := (hFa.block V.heap.size (by omega) hne1).trans hu
    have hvX := (hFa.block w.heap.size (by omega) hne0).trans ((hBU.block _ (by omega)).trans hv)
    obtain ⟨a0, a1⟩ := cells2 huX
    obtain ⟨R1, R2, ⟨s1, s2⟩, ⟨m0, m1⟩, ⟨y0, y1⟩, hR, hFR, hsR⟩ := store2 hvX (I o.m) (I o.n)
    obtain ⟨x0, x1⟩ := cells2 hR
    have HE : Hid ((∃ F' B', Rt R2 r n F' B' ∧ RL es' F' B') ∧ Fr r w R2) := by
      refine ⟨⟨_, _, ⟨(hFR.block r (lt_of_heap hx4) (Ne.symm hne0)).trans hx4⟩, hl.turn hq hk (x := none) rfl (unhide HG)⟩, ?_⟩
      have h2 : Fr r w X4 := ((Fr.of_below hBV).trans (Fr.of_below hBU)).trans hFa
      rw [← s2, ← s1]
      exact (h2.setNew (p := ⟨w.heap.size, 0, none⟩) (Nat.le_refl _) _).setNew (p := ⟨w.heap.size, 1, none⟩) (Nat.le_refl _) _
    clear hR hFR hsR huX hvX hFa hF4 hs4 hx4 hx hFX hsX hTU hBU hu hsU hT h hl hw he hfr g0 g1 g2 g3 hBV hv f2 f3 HG
    cases B (q * 8 + k) <;>
    · go_enter Try.func17, Try.ntmps17
      go_wp2_with fail
      refine (unhide HN).mono ?_
      rintro e w1 ⟨rfl, hw1⟩
      rw [hw1]
      clear hw1 HN w1 hV hsV
      go_wp2_with fail
      refine bodyPost_ret (v := .tuple #[Op.pv o, I 0]) (by simp [results, Try.results17, go_sem, x0, x1]) rfl ?_
      exact ⟨rfl, (unhide HE).1, (unhide HE).2⟩
  · have hg : getV es p d = o0 := by unfold getV; rw [if_neg he]
    rw [hg, show closeL es p d = es by unfold closeL; rw [if_neg he]]
    obtain ⟨X1, X2, ⟨e1, e2⟩, ⟨d0, d1⟩, ⟨f0, f1⟩, hx, hF, hs⟩ := store2 hv (I 0) (I 0)
    obtain ⟨x0, x1⟩ := cells2 hx
    have HE : Hid ((∃ F' B', Rt X2 r n F' B' ∧ RL es F' B') ∧ Fr r w X2) :=
      ⟨⟨F, B, hT.fr hF (by omega), hl⟩, .of_below (hBV.trans (hF.below (Nat.le_refl _) (by omega)))⟩
    generalize findE es p d = er at *
    clear h hl hw hT hBV hv hx hF hs
    go_enter Try.func17, Try.ntmps17
    go_wp2_with fail
    refine (unhide HN).mono ?_
    rintro e w1 ⟨rfl, hw1⟩
    rw [hw1]
    clear hw1 HN w1 hV hsV
    go_wp2_with fail
    refine bodyPost_ret (v := .tuple #[Op.pv o0, I er]) (by simp [results, Try.results17, go_sem, x0, x1, o0]) rfl ?_
    exact ⟨rfl, (unhide HE).1, (unhide HE).2⟩
end Go.Proofs.Ytocaonbmijmbmaa
