/-
  The contracts of the document's Get, Seek, Open and Close, told by the files that are open.
-/
import Derived.Test.YtocaonbmijmbmaaRefB
namespace Go.Proofs.Ytocaonbmijmbmaa
open Go.RowKit Go.Shelf
attribute [local go_sem ↓] Go.wp_at_zero Go.wp_at_succ

theorem find_nat {es : List Op} (hw : Wf es) {p d : Int} (he : findE es p d = 0) : ∃ q k : Nat, p = q ∧ d = k ∧ q < 8 ∧ k < 8 := by
  obtain ⟨hp, -, -, o, ho, e1, e2⟩ := findE_zero he
  have := hw.rng o (List.mem_of_getElem? ho)
  exact ⟨p.toNat, d.toNat, by omega, by omega, by omega, by omega⟩

set_option maxRecDepth 100000 in
set_option maxHeartbeats 1000000 in
theorem rget_any (r n : Nat) (es : List Op) (p d : Int) (F : Nat → Op) (B : Nat → Bool) (w : World) (h : Rt w r n F B) (hl : RL es F B) (hw : Wf es) :
    Calls Try.prog 19 #[.pointer (some ⟨r, 0, none⟩), I p, I d] w fun e w' => e = .returned (.tuple #[Op.fv (getV es p d), I (findE es p d)]) ∧ Below w.heap.size w w' := by
  obtain ⟨V, hV, hv, hBV, hsV⟩ := fresh4 w 50
  have hT := h.below hBV
  have HN := hide (rcheck_any r n es p d F B V hT hl hw)
  have HV := hide hBV
  by_cases he : findE es p d = 0
  · obtain ⟨q, k, rfl, rfl, hq, hk⟩ := find_nat hw he
    obtain ⟨f0, f1, f2, f3⟩ := hT.f q k hq hk
    have hfr := hl.f q k hq hk
    rw [← getV_eq hw] at hfr
    obtain ⟨g0, g1, g2, g3⟩ := frow_inj hfr
    rw [g0] at f0
    rw [g1] at f1
    rw [g2] at f2
    rw [g3] at f3
    rw [he] at HN
    rw [he]
    generalize getV es (q : Int) (k : Int) = o at *
    have q1 : (q : Int) < 8 := by omega
    have q0 : (0 : Int) ≤ (q : Int) := by omega
    have k1 : (k : Int) < 8 := by omega
    have k0 : (0 : Int) ≤ (k : Int) := by omega
    obtain ⟨X1, X2, X3, X4, ⟨e1, e2, e3, e4⟩, ⟨d0, d1, d2, d3⟩, ⟨z0, z1, z2, z3⟩, hx, hF, hs⟩ := store4 hv (I o.m) (I o.n) (I o.f) (I o.s)
    obtain ⟨x0, x1, x2, x3⟩ := cells4 hx
    have HE : Hid (Below w.heap.size w X4) := (unhide HV).trans (hF.below (Nat.le_refl _) (by omega))
    clear hx hF hs HV hv hBV hT h hl hw he hfr g0 g1 g2 g3 hsV
    go_enter Try.func19, Try.ntmps19
    go_wp2_with fail
    refine (unhide HN).mono ?_
    rintro e w1 ⟨rfl, hw1⟩
    rw [hw1]
    clear hw1 HN w1 hV
    go_wp2_with fail
    refine bodyPost_ret (v := .tuple #[Op.fv o, I 0]) (by simp [results, Try.results19, go_sem, x0, x1, x2, x3]) rfl ?_
    exact ⟨rfl, unhide HE⟩
  · have hg : getV es p d = o0 := by unfold getV; rw [if_neg he]
    rw [hg]
    generalize findE es p d = er at *
    obtain ⟨X1, X2, X3, X4, ⟨e1, e2, e3, e4⟩, ⟨d0, d1, d2, d3⟩, ⟨z0, z1, z2, z3⟩, hx, hF, hs⟩ := store4 hv (I 0) (I 0) (I 0) (I 0)
    obtain ⟨x0, x1, x2, x3⟩ := cells4 hx
    have HE : Hid (Below w.heap.size w X4) := (unhide HV).trans (hF.below (Nat.le_refl _) (by omega))
    clear hx hF hs HV hv hBV hT h hl hw hsV
    go_enter Try.func19, Try.ntmps19
    go_wp2_with fail
    refine (unhide HN).mono ?_
    rintro e w1 ⟨rfl, hw1⟩
    rw [hw1]
    clear hw1 HN w1 hV
    go_wp2_with fail
    refine bodyPost_ret (v := .tuple #[Op.fv o0, I er]) (by simp [results, Try.results19, go_sem, x0, x1, x2, x3, o0]) rfl ?_
    exact ⟨rfl, unhide HE⟩

set_option maxRecDepth 100000 in
set_option maxHeartbeats 1000000 in
theorem rseek_any (r n : Nat) (es : List Op) (p d s : Int) (F : Nat → Op) (B : Nat → Bool) (w : World) (h : Rt w r n F B) (hl : RL es F B) (hw : Wf es) :
    Calls Try.prog 18 #[.pointer (some ⟨r, 0, none⟩), I p, I d, I s] w fun e w' => e = .returned (I (seekE es p d s)) ∧ (∃ F' B', Rt w' r n F' B' ∧ RL (seekL es p d s) F' B') ∧ Fr r w w' := by
  have HN := hide (rcheck_any r n es p d F B w h hl hw)
  by_cases he : findE es p d = 0
  · rw [he] at HN
    by_cases hs : s < 0
    · rw [show seekE es p d s = 39 by unfold seekE; rw [if_pos he, if_pos hs], show seekL es p d s = es by unfold seekL; rw [if_pos he, if_pos hs]]
      have HE : Hid ((∃ F' B', Rt w r n F' B' ∧ RL es F' B') ∧ Fr r w w) := ⟨⟨F, B, h, hl⟩, Fr.refl _ _⟩
      clear he h hl hw
      go_enter Try.func18, Try.ntmps18
      go_wp2_with fail
      refine (unhide HN).mono ?_
      rintro e w1 ⟨rfl, hw1⟩
      rw [hw1]
      clear hw1 HN w1
      go_wp2_with fail
      go_ret
      exact ⟨rfl, (unhide HE).1, (unhide HE).2⟩
    · have hs0 : 0 ≤ s := by omega
      rw [show seekE es p d s = 0 by unfold seekE; rw [if_pos he, if_neg hs]]
      obtain ⟨q, k, rfl, rfl, hq, hk⟩ := find_nat hw he
      obtain ⟨f0, f1, f2, f3⟩ := h.f q k hq hk
      have hfr := hl.f q k hq hk
      rw [← getV_eq hw] at hfr
      obtain ⟨g0, g1, g2, g3⟩ := frow_inj hfr
      have hff := frozen_of h.hb
      have q1 : (q : Int) < 8 := by omega
      have q0 : (0 : Int) ≤ (q : Int) := by omega
      have k1 : (k : Int) < 8 := by omega
      have k0 : (0 : Int) ≤ (k : Int) := by omega
      have HE : Hid ((∃ F' B', Rt (w.setCell ⟨r, 1 + q * 32 + k * 4 + 3, none⟩ (I s)) r n F' B' ∧ RL (seekL es (q : Int) (k : Int) s) F' B') ∧ Fr r w (w.setCell ⟨r, 1 + q * 32 + k * 4 + 3, none⟩ (I s))) := by
        refine ⟨⟨up F (q * 8 + k) ⟨(getV es (q : Int) (k : Int)).p, (getV es (q : Int) (k : Int)).d, (getV es (q : Int) (k : Int)).m, (getV es (q : Int) (k : Int)).n, (getV es (q : Int) (k : Int)).f, s⟩, up B (q * 8 + k) true, ⟨?_⟩, ?_⟩, (Fr.refl r w).set (p := ⟨r, 1 + q * 32 + k * 4 + 3, none⟩) rfl _⟩
        · rw [heap_set h.hb, show 1 + q * 32 + k * 4 + 3 = 1 + (q * 8 + k) * 4 + 3 by omega, rc_setf n F B (q * 8 + k) 3 (I s) ⟨(getV es (q : Int) (k : Int)).p, (getV es (q : Int) (k : Int)).d, (getV es (q : Int) (k : Int)).m, (getV es (q : Int) (k : Int)).n, (getV es (q : Int) (k : Int)).f, s⟩ (by omega) (by omega) (by rw [hfr]; rfl)]
          have hbt : up B (q * 8 + k) true = B := by
            funext j
            unfold up
            split
            · rename_i e
              rw [e, hl.b q k hq hk]
              exact ((findE_zero_iff hw).1 he).symm
            · rfl
          rw [hbt]
        · exact hl.turn hq hk (x := some { getV es (q : Int) (k : Int) with s := s }) rfl (getO_seek hw he hs)
      clear he h hl hw hfr g0 g1 g2 g3 f0 f1 f2
      generalize seekL es (q : Int) (k : Int) s = es' at *
      go_enter Try.func18, Try.ntmps18
      go_wp2_with fail
      refine (unhide HN).mono ?_
      rintro e w1 ⟨rfl, hw1⟩
      rw [hw1]
      clear hw1 HN w1
      go_wp2_with fail
      go_ret
      exact ⟨rfl, (unhide HE).1, (unhide HE).2⟩
  · rw [show seekE es p d s = findE es p d by unfold seekE; rw [if_neg he], show seekL es p d s = es by unfold seekL; rw [if_neg he]]
    have HE : Hid ((∃ F' B', Rt w r n F' B' ∧ RL es F' B') ∧ Fr r w w) := ⟨⟨F, B, h, hl⟩, Fr.refl _ _⟩
    generalize findE es p d = er at *
    clear h hl hw
    go_enter Try.func18, Try.ntmps18
    go_wp2_with fail
    refine (unhide HN).mono ?_
    rintro e w1 ⟨rfl, hw1⟩
    rw [hw1]
    clear hw1 HN w1
    go_wp2_with fail
    go_ret
    exact ⟨rfl, (unhide HE).1, (unhide HE).2⟩
end Go.Proofs.Ytocaonbmijmbmaa
