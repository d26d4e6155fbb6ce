/-
  SpinPlays: the program and the document's own run go hand in hand.
-/
import Derived.Test.YtkgeapmafpeapaaRPlaysA
import Derived.Test.YtkgeapmafpeapaaRJobs
import Derived.ProofKit
import Derived.OpenShut
import Derived.ShutString
import Derived.ChangeOld
import Derived.Below
import Derived.Laws.OwnMore
namespace Go.Proofs.Ytkgeapmafpeapaa.spinPlays
open Go.ChangeShapes Go.WideShapes Go.ChangeAt Go.RowKit
attribute [local go_sem ↓] Go.wp_at_zero Go.wp_at_succ
set_option linter.unusedVariables false

theorem own : ownKnob Try.prog.godebug = none := by kernel_rfl
theorem laidOut : laidOutB Try.prog = true := by kernel_rfl

theorem RSys.lts {W : World} {rr b c aa ca la sa n cap : Nat} {jp : Option Addr} {ws : List Int} {st : Int} {xs : List RJ} (h : RSys W rr b c aa ca la sa n jp cap ws st xs) : rr < W.heap.size ∧ b < W.heap.size ∧ c < W.heap.size ∧ aa < W.heap.size ∧ ca < W.heap.size ∧ la < W.heap.size ∧ sa < W.heap.size := by
  have lt : ∀ {k : Nat} {o : Obj}, W.heap[k]? = some o → k < W.heap.size := fun e => (Array.getElem?_eq_some_iff.1 e).1
  obtain ⟨_, _, _, _, _, hm⟩ := h.mem
  exact ⟨lt h.hr, hm.blt, hm.clt, lt h.ha, lt h.hc, lt h.hl, lt h.hs⟩
theorem RSys.memc {W : World} {rr b c aa ca la sa n cap : Nat} {jp : Option Addr} {ws : List Int} {st : Int} {xs : List RJ} (h : RSys W rr b c aa ca la sa n jp cap ws st xs) : W.cell? ⟨b, 0, none⟩ = some (.slice (some ⟨c, 0, none⟩) n n) ∧ W.cell? ⟨b, 1, none⟩ = some (.int .i64 st) ∧ W.heap[c]? = some (.cells (ws.map (Value.int .i64)).toArray 2) ∧ ws.length = n ∧ n ≤ 64 := by
  obtain ⟨_, _, _, _, _, hm⟩ := h.mem
  exact ⟨hm.cells.1, hm.cells.2.1, hm.hc, hm.len, hm.hi⟩
theorem cells4 {W : World} {g : Nat} {s : St} {T : TypeId} (h : W.heap[g]? = some (.cells #[.bool s.done, .int .i64 s.sA, .int .i64 s.sB, .int .i64 s.tries] T)) : W.cell? ⟨g, 0, none⟩ = some (.bool s.done) ∧ W.cell? ⟨g, 1, none⟩ = some (.int .i64 s.sA) ∧ W.cell? ⟨g, 2, none⟩ = some (.int .i64 s.sB) ∧ W.cell? ⟨g, 3, none⟩ = some (.int .i64 s.tries) := by
  refine ⟨?_, ?_, ?_, ?_⟩ <;> rw [cell_of h] <;> rfl
theorem stepI_len (ms : List Mach) (ws : List Int) (a : Int) : (stepI ms ws a).2.2.1.length = ms.length := by
  unfold stepI
  split
  · rfl
  · split
    · rfl
    · split <;> simp
theorem shown_shown (s : St) : s.shown.shown = s.shown := by
  unfold St.shown
  by_cases h : s.done = true <;> simp [h]
theorem own_cells {W : World} {base l kc t : Nat} {ka : Option Addr} {ss : List St} {s : St} (h : W.ownsRow base 50 4 (.slice ka l kc) l (rowsOf St.row ss)) (hs : ss[t]? = some s) (ht : t < l) : ∃ g, ka = some ⟨g, 0, none⟩ ∧ g < W.heap.size ∧
    W.cell? ⟨g, t * 4, none⟩ = some (.bool s.done) ∧ W.cell? ⟨g, t * 4 + 1, none⟩ = some (.int .i64 s.sA) ∧ W.cell? ⟨g, t * 4 + 2, none⟩ = some (.int .i64 s.sB) ∧ W.cell? ⟨g, t * 4 + 3, none⟩ = some (.int .i64 s.tries) := by
  have h0 := h
  rcases h.2 with ⟨-, e⟩ | ⟨g, cap, cur, e, -, hg, -⟩
  · omega
  · simp at e
    obtain ⟨rfl, rfl⟩ := e
    have key : ∀ f, f < 4 → ∀ v, s.row[f]? = some v → W.cell? ⟨g, t * 4 + f, none⟩ = some v := by
      intro f hf v hv
      rw [h0.cellAt (t * 4 + f) (by omega), Nat.mul_comm, rowsOf_get St.row 4 St.row_length ss t f s hs hf]
      exact hv
    exact ⟨g, rfl, (Array.getElem?_eq_some_iff.1 hg).1, key 0 (by omega) _ rfl, key 1 (by omega) _ rfl, key 2 (by omega) _ rfl, key 3 (by omega) _ rfl⟩
theorem JobsAt.of_owns82 {W : World} {base l : Nat} {v : Value} {js : List Jb} (hl : js.length = l) (h : W.ownsRow base 82 5 v l (rowsOf Jb.row js)) : ∃ pa cap, v = .slice pa l cap ∧ JobsAt W pa js := by
  subst hl
  obtain ⟨-, ⟨rfl, hz⟩ | ⟨g, cap, cur, rfl, hgb, hgg, hcap, hcm, hcs, htk⟩⟩ := h
  · have e : js = [] := List.length_eq_zero_iff.1 hz
    subst e
    exact ⟨none, 0, rfl, fun k j hj => by simp at hj⟩
  · refine ⟨_, cap, rfl, JobsAt.of_rows hgg ?_⟩
    intro i u hu
    rw [← htk] at hu
    have hi : i < js.length * 5 := by
      have := (List.getElem?_eq_some_iff.1 hu).1
      simp at this; omega
    rw [List.getElem?_take_of_lt hi] at hu
    simpa using hu

set_option maxRecDepth 100000 in
set_option maxHeartbeats 4000000 in
theorem walk (a0 : Int) (pa : Option Addr) (len cap : Nat) (pb : Option Addr) (lenb capb : Nat) (w : World) (hJ0 : JobsIn w pa len cap) (hp : Picks w pb lenb) :
    Calls Try.prog 4 #[.int .i64 a0, .slice pa len cap, .slice pb lenb capb] w fun e w' => e = .returned (.bool true) ∧ Below w.heap.size w w' := by
  obtain ⟨hlc, hcm, js0, hl0, hJ0⟩ := hJ0
  unfold maxLen at hcm
  obtain ⟨hml2, hrow⟩ := hp
  unfold maxLen at hml2
  have HR := hide hrow
  have HJ0 := hide hJ0
  have HL0 := hide hl0
  clear hrow hJ0 hl0
  go_enter Try.func4, Try.ntmps4
  go_wp2_with fail
  refine (within_any a0 11 _ (by omega) (by omega)).mono ?_
  rintro e w1 ⟨⟨n0, p0, p1, rfl⟩, rfl⟩
  obtain ⟨n, hn⟩ : ∃ n : Nat, 1 + n0 = (n : Int) := ⟨(1 + n0).toNat, by omega⟩
  have n1 : 1 ≤ n := by omega
  have n12 : n ≤ 12 := by omega
  go_wp2_with fail
  clear p0 p1 hn
  refine (new_yes n (by omega) (by omega) _).mono ?_
  rintro e w2 ⟨rfl, hM2, hB2⟩
  have z2 := hB2.size
  obtain ⟨hh, ehh⟩ : ∃ hh, w1.heap.size = hh := ⟨_, rfl⟩
  have HH := hide ehh
  rw [ehh] at hM2 hB2 z2 ⊢
  clear ehh
  go_wp2_with fail
  refine (rnew_yes n (by omega) (by omega) _).mono ?_
  rintro e w3 ⟨rfl, hN3, hB3⟩
  have b2 := hM2.blt
  have z3 := hB3.size
  have b3 := hN3.blt
  have hM3 := hM2.below hB3
  obtain ⟨m1, em1⟩ : ∃ m, w2.heap.size = m := ⟨_, rfl⟩
  rw [em1] at b2 hN3 hB3 z3 b3 ⊢
  have HM1 := hide em1
  clear em1
  by_cases h10 : len ≤ 10
  · have k10 : ¬ (10 : Int) < (len : Int) := by omega
    have hl := unhide HL0
    have hJ := ((unhide HJ0).below hB2 (by rw [unhide HH]; exact Nat.le_refl _)).below hB3 (by rw [unhide HM1]; exact Nat.le_refl _)
    clear HJ0 HL0
    go_wp2_with fail
    refine (snew (hh + 1) hh n len cap (List.replicate n 0) 0 0 0 0 0 false js0 pa _ hM3 hJ hl (by omega)).mono ?_
    rintro e w4 ⟨hB4, hs4⟩
    have z4 := hB4.size
    have hJ4 := hJ.below hB4 (Nat.le_refl _)
    have hN4 := hN3.below hB4
    rcases hs4 with ⟨hbad, rfl⟩ | ⟨hf, h8, rfl⟩ | ⟨hf, h8, r, q, rfl, hr, hq, hR4⟩
    · have HBAD := hide hbad
      clear hbad
      go_wp2_with fail
      refine (rin len cap pa js0 _ hJ4 hl (by omega)).mono ?_
      rintro e w5 ⟨v5, rfl, hown5, hB5⟩
      obtain ⟨pc, cc, rfl, hJ5⟩ := JobsAt.of_owns82 hl hown5
      have z5 := hB5.size
      go_wp2_with fail
      refine (rnew (m1 + 1) m1 n len cc (List.replicate n 0) 0 0 0 0 0 false js0 pc _ (hN4.below hB5) hJ5 hl (by omega)).mono ?_
      rintro e w6 ⟨hB6, ⟨-, rfl⟩ | ⟨hf, -⟩ | ⟨hf, -⟩⟩
      · have z6 := hB6.size
        have B6 : Below hh w1 w6 := ((((hB2.trans (hB3.mono (by omega))).trans (hB4.mono (by omega))).trans (hB5.mono (by omega))).trans (hB6.mono (by omega)))
        go_wp2_with fail
        refine (known_true _).mono ?_
        rintro e w7 ⟨rfl, hB7⟩
        go_wp2_with fail
        go_ret
        exact ⟨rfl, by rw [unhide HH]; exact B6.trans (hB7.mono (by omega))⟩
      · obtain ⟨k, j, hj, hn⟩ := unhide HBAD; exact absurd (hf k j hj) hn
      · obtain ⟨k, j, hj, hn⟩ := unhide HBAD; exact absurd (hf k j hj) hn
    · have HF := hide hf
      clear hf
      go_wp2_with fail
      refine (rin len cap pa js0 _ hJ4 hl (by omega)).mono ?_
      rintro e w5 ⟨v5, rfl, hown5, hB5⟩
      obtain ⟨pc, cc, rfl, hJ5⟩ := JobsAt.of_owns82 hl hown5
      have z5 := hB5.size
      go_wp2_with fail
      refine (rnew (m1 + 1) m1 n len cc (List.replicate n 0) 0 0 0 0 0 false js0 pc _ (hN4.below hB5) hJ5 hl (by omega)).mono ?_
      rintro e w6 ⟨hB6, ⟨hbad, -⟩ | ⟨-, -, rfl⟩ | ⟨-, h8', -⟩⟩
      · obtain ⟨k, j, hj, hn⟩ := hbad; exact absurd (unhide HF k j hj) hn
      · have z6 := hB6.size
        have B6 : Below hh w1 w6 := ((((hB2.trans (hB3.mono (by omega))).trans (hB4.mono (by omega))).trans (hB5.mono (by omega))).trans (hB6.mono (by omega)))
        go_wp2_with fail
        refine (known_true _).mono ?_
        rintro e w7 ⟨rfl, hB7⟩
        go_wp2_with fail
        go_ret
        exact ⟨rfl, by rw [unhide HH]; exact B6.trans (hB7.mono (by omega))⟩
      · omega
    · have HF := hide hf
      clear hf
      go_wp2_with fail
      refine (rin len cap pa js0 _ hJ4 hl (by omega)).mono ?_
      rintro e w5 ⟨v5, rfl, hown5, hB5⟩
      obtain ⟨pc, cc, rfl, hJ5⟩ := JobsAt.of_owns82 hl hown5
      have z5 := hB5.size
      have hR5 := hR4.below hB5
      go_wp2_with fail
      refine (rnew (m1 + 1) m1 n len cc (List.replicate n 0) 0 0 0 0 0 false js0 pc _ (hN4.below hB5) hJ5 hl (by omega)).mono ?_
      rintro e w6 ⟨hB6, ⟨hbad, -⟩ | ⟨-, h8', -⟩ | ⟨-, -, rr, aa, ca, la, sa, jp, cp, rfl, k1, k2, k3, k4, k5, k6, hS6⟩⟩
      · obtain ⟨k, j, hj, hn⟩ := hbad; exact absurd (unhide HF k j hj) hn
      · omega
      · have z6 := hB6.size
        have B6 : Below hh w1 w6 := ((((hB2.trans (hB3.mono (by omega))).trans (hB4.mono (by omega))).trans (hB5.mono (by omega))).trans (hB6.mono (by omega)))
        have lr := hR4.rlt
        have lq := hR4.sys.qlt
        have SP : Sep hh m1 w3.heap.size w5.heap.size r (hh + 1) hh q rr (m1 + 1) m1 aa ca la sa jp := ⟨⟨by omega, by omega, by omega, by omega, by omega, by omega, by omega, by omega, by omega, by omega, by omega, by omega, by omega, by omega, by omega, by omega, by omega, by omega, by omega, by omega⟩, k6⟩
        have hR6 := hR5.below hB6
        have HSP := hide SP
        have HR6 := hide hR6
        have HS6 := hide hS6
        have HB6 := hide B6
        clear SP hR6 hS6 B6 hR5 hR4 hB6 hB5 hB4 hB3 hB2 hM3 hN4 hN3 hJ5 hJ4 hJ k1 k2 k3 k4 k5 k6 hr hq lr lq hown5
        have hml0 : (machs js0).length = len := by simp [machs, hl]
        have PS0 : ∃ ws st ms xs, Run w6 r (hh + 1) hh q n ws st ms ∧ RSys w6 rr (m1 + 1) m1 aa ca la sa n jp cp ws st xs ∧ xs.length = ms.length ∧ ms.length = len ∧ Sims ms xs ∧ Good n st ms ∧ 0 ≤ st ∧ st ≤ ((0 : Nat) : Int) :=
          ⟨_, _, _, _, unhide HR6, unhide HS6, by rw [hml0, List.length_map, hl], hml0, Sims.fresh (unhide HF), Good.machs (unhide HF), by omega, by omega⟩
        have HPS0 := hide PS0
        clear PS0 hml0 HR6 HS6 HF
        have z6h : hh ≤ w6.heap.size := by omega
        have hbp : ∀ (p : Nat), p < w1.heap.size → p < hh := fun p h => by rw [← unhide HH]; exact h
        generalize w3.heap.size = m2 at *
        generalize w5.heap.size = m3 at *
        clear z4 z5 z6 b2 b3 z2 z3
        go_wp2_with fail
        go_loopw [14] (fun i wr => ∃ k : Nat, k ≤ lenb ∧ k ≤ 200 ∧ i = .int .i64 k ∧ (∃ ws st ms xs, Run wr r (hh + 1) hh q n ws st ms ∧ RSys wr rr (m1 + 1) m1 aa ca la sa n jp cp ws st xs ∧ xs.length = ms.length ∧ ms.length = len ∧ Sims ms xs ∧ Good n st ms ∧ 0 ≤ st ∧ st ≤ (k : Int)) ∧ Below hh w1 wr ∧ hh ≤ wr.heap.size) (fun i _ => lenb - (intOf i).toNat)
        case atStart => exact ⟨0, Nat.zero_le _, Nat.zero_le _, rfl, unhide HPS0, unhide HB6, z6h⟩
        case round =>
          obtain ⟨k, hk, hk2, rfl, ⟨ws, st, ms, xs, hR, hS, hx, hml, hSim, hG, s0, sk⟩, hB, hs⟩ := hrel
          by_cases hkk : k < lenb ∧ k < 200
          · obtain ⟨hkl, hk200⟩ := hkk
            have j1 : (k : Int) < (lenb : Int) := by omega
            have j2 : (k : Int) < 200 := by omega
            have j0 : (0 : Int) ≤ (k : Int) := by omega
            obtain ⟨pq, off, x, rfl, hpq, hc, x0, x1⟩ := unhide HR k hkl
            have hpq' := hbp pq hpq
            have c0 := (hB.cell (p := ⟨pq, off + k, none⟩) hpq').trans hc
            have K1 := hide (pick_x r (hh + 1) hh q n ws st x ms wr hR x0 x1)
            have HHR := hide hR
            have HHS := hide hS
            have HSIM := hide hSim
            have HG := hide hG
            have HX := hide hx
            have HML := hide hml
            clear hR hS hSim hG hx hml
            go_wp2_with fail
            refine (unhide K1).mono ?_
            rintro e wa ⟨rfl, hBa⟩
            have za := hBa.size
            have Ba : Below hh w1 wa := hB.trans (hBa.mono hs)
            have ca0 := (Ba.cell (p := ⟨pq, off + k, none⟩) hpq').trans hc
            have K2 := hide (rpick rr (m1 + 1) m1 aa ca la sa n cp jp ws st x xs ms wa ((unhide HHS).below hBa) (unhide HX) (fun i y M hy hM => (unhide HSIM i M y hM hy).dn) x0 x1)
            generalize picked ms x = pk at *
            unfold opn at *
            generalize (!(opens ms ms.length).isEmpty) = eb at *
            go_wp2_with fail
            refine (unhide K2).mono ?_
            rintro e wb ⟨rfl, hBb⟩
            have zb := hBb.size
            have Bb : Below hh w1 wb := Ba.trans (hBb.mono (by omega))
            have cb0 := (Bb.cell (p := ⟨pq, off + k, none⟩) hpq').trans hc
            have HRb := hide (((unhide HHR).below hBa).below hBb)
            have HSb := hide (((unhide HHS).below hBa).below hBb)
            have zb' : hh ≤ wb.heap.size := by omega
            clear HHR HHS K1 K2 hBa hBb Ba hB c0 ca0 za zb
            go_wp2_with fail
            · obtain ⟨T, E, ms', ws', d, hst⟩ : ∃ T E ms' ws' d, stepI ms ws x = (T, E, ms', ws', d) := ⟨_, _, _, _, _, rfl⟩
              have K3 := step_I r (hh + 1) hh q n ws st x ms wb (unhide HRb) (unhide HG) s0 (by omega)
              have K4 := fun W hW => rstep_I rr (m1 + 1) m1 aa ca la sa n cp jp ws st x xs ms W hW (unhide HX) (unhide HSIM) (unhide HG) s0 (by omega)
              have hd := stepI_d ms ws x
              have hle0 := stepI_len ms ws x
              rw [hst] at K3 K4 hd hle0
              dsimp only at K3 K4 hd hle0
              have HLE0 := hide hle0
              clear hle0
              have HST := hide hst
              have HK3 := hide K3
              have HK4 := hide K4
              clear K3 K4 hst
              refine (unhide HK3).mono ?_
              rintro e wc ⟨rfl, hRc, hGc, hFc⟩
              have Bc := (unhide HSP).below1 Bb zb' hFc
              have zc : hh ≤ wc.heap.size := by have := hFc.size; omega
              have HSc := hide ((unhide HSP).sys (unhide HSb) hFc)
              have HRc := hide hRc
              have HGc := hide hGc
              clear HK3 hRc hGc hFc Bb zb' cb0 HRb HSb HG
              unfold St.told
              go_wp2_with fail
              have hBd : Below wc.heap.size wc (wc.alloc (.cells #[.bool T.done, .int .i64 T.sA, .int .i64 T.sB, .int .i64 T.tries] 33)) := (Below.refl _ _).alloc (Nat.le_refl _) _
              have hgd : (wc.alloc (.cells #[.bool T.done, .int .i64 T.sA, .int .i64 T.sB, .int .i64 T.tries] 33)).heap[wc.heap.size]? = some (.cells #[.bool T.done, .int .i64 T.sA, .int .i64 T.sB, .int .i64 T.tries] 33) := putAll _ _ rfl
              obtain ⟨wd, ewd⟩ : ∃ wd, wc.alloc (.cells #[.bool T.done, .int .i64 T.sA, .int .i64 T.sB, .int .i64 T.tries] 33) = wd := ⟨_, rfl⟩
              rw [ewd] at hBd hgd ⊢
              clear ewd
              refine (unhide HK4 wd ((unhide HSc).below hBd)).mono ?_
              rintro e we ⟨y, xs', rfl, hy, hSe, hle, hSime, hFe⟩
              subst hy
              obtain ⟨y1, y2, y3, y4, y5, y6, y7⟩ := RSys.lts (unhide HSc)
              obtain ⟨gx, egx⟩ : ∃ g, wc.heap.size = g := ⟨_, rfl⟩
              have hgx0 := (Array.getElem?_eq_some_iff.1 hgd).1
              have hge := (hFe.block wc.heap.size hgx0 (by omega) (by omega) (by omega) (by omega) (by omega) (by omega)).trans hgd
              have hgxe : wc.heap.size < we.heap.size := by have := hFe.size; omega
              have hRe := (unhide HSP).run ((unhide HRc).below hBd) hFe
              have Be := (unhide HSP).below2 (Bc.trans (hBd.mono zc)) (by omega) hFe
              have ze : hh ≤ we.heap.size := by omega
              rw [egx] at hge hgxe ⊢
              clear HK4 hBd hgd HSc HRc hFe y1 y2 y3 y4 y5 y6 y7 Bc zc hgx0 egx
              have HRe := hide hRe
              have HSe := hide hSe
              have HSime := hide hSime
              have HLE := hide hle
              clear hRe hSe hSime hle
              unfold St.told
              go_wp2_with fail
              have hBf : Below we.heap.size we (we.alloc (.cells #[.bool y.done, .int .i64 y.sA, .int .i64 y.sB, .int .i64 y.tries] 50)).drew := ⟨rfl, rfl, rfl, by simp [World.drew], fun k hk => Below.heap_alloc _ _ _ hk⟩
              have hgf : (we.alloc (.cells #[.bool y.done, .int .i64 y.sA, .int .i64 y.sB, .int .i64 y.tries] 50)).drew.heap[we.heap.size]? = some (.cells #[.bool y.done, .int .i64 y.sA, .int .i64 y.sB, .int .i64 y.tries] 50) := putAll _ _ rfl
              obtain ⟨gy, egy⟩ : ∃ g, we.heap.size = g := ⟨_, rfl⟩
              have hgx := (hBf.block gx hgxe).trans hge
              have Rf := (unhide HRe).below hBf
              have Sf := (unhide HSe).below hBf
              have Bf := Be.trans (hBf.mono ze)
              have zf : hh ≤ (we.alloc (.cells #[.bool y.done, .int .i64 y.sA, .int .i64 y.sB, .int .i64 y.tries] 50)).drew.heap.size := by simp [World.drew]; omega
              rw [egy] at hgf ⊢
              obtain ⟨wf0, ewf0⟩ : ∃ W, we.alloc (.cells #[.bool y.done, .int .i64 y.sA, .int .i64 y.sB, .int .i64 y.tries] 50) = W := ⟨_, rfl⟩
              rw [ewf0] at hgf hgx Rf Sf Bf zf ⊢
              clear hBf hge hgxe HRe HSe Be ze egy ewf0
              have K5 := same_yes y wf0.drew
              unfold St.told at K5
              have HK5 := hide K5
              have lx := (Array.getElem?_eq_some_iff.1 hgx).1
              have ly := (Array.getElem?_eq_some_iff.1 hgf).1
              obtain ⟨_, lb, lc, _, _, _, _⟩ := RSys.lts Sf
              obtain ⟨x0', x1', x2', x3'⟩ := cells4 hgx
              obtain ⟨q0, q1, q2, q3⟩ := cells4 hgf
              obtain ⟨e0, e1, hcw, hlw, hn64⟩ := RSys.memc Sf
              have HRf := hide Rf
              have HSf := hide Sf
              have HBf := hide Bf
              have HCW := hide hcw
              have HLW := hide hlw
              clear K5 Rf Sf Bf hgx hgf hcw hlw
              generalize y.shown = ysh at *
              obtain ⟨s2, es2⟩ : ∃ s2, st + d = s2 := ⟨_, rfl⟩
              have HES := hide es2
              rw [es2] at e1 HRf HSf
              clear es2
              go_region_held3 (fun w' => w'.cell? ⟨gx, 0, none⟩ = some (.bool ysh.done) ∧ w'.cell? ⟨gx, 1, none⟩ = some (.int .i64 ysh.sA) ∧ w'.cell? ⟨gx, 2, none⟩ = some (.int .i64 ysh.sB) ∧ w'.cell? ⟨gx, 3, none⟩ = some (.int .i64 ysh.tries) ∧
                  w'.cell? ⟨gy, 0, none⟩ = some (.bool y.done) ∧ w'.cell? ⟨gy, 1, none⟩ = some (.int .i64 y.sA) ∧ w'.cell? ⟨gy, 2, none⟩ = some (.int .i64 y.sB) ∧ w'.cell? ⟨gy, 3, none⟩ = some (.int .i64 y.tries) ∧ w'.cell? ⟨m1 + 1, 0, none⟩ = some (.slice (some ⟨m1, 0, none⟩) n n) ∧ w'.cell? ⟨m1 + 1, 1, none⟩ = some (.int .i64 s2)) (go_keep)
                (first
                  | (go_at_call 21; refine (unhide HK5).mono ?_; rintro e wA ⟨rfl, hBA⟩; have zA := hBA.size; have f0 := (hBA.cell (p := ⟨gx, 0, none⟩) lx).trans x0'; have f1 := (hBA.cell (p := ⟨gx, 1, none⟩) lx).trans x1'; have f2 := (hBA.cell (p := ⟨gx, 2, none⟩) lx).trans x2'; have f3 := (hBA.cell (p := ⟨gx, 3, none⟩) lx).trans x3'
                     have f4 := (hBA.cell (p := ⟨gy, 0, none⟩) ly).trans q0; have f5 := (hBA.cell (p := ⟨gy, 1, none⟩) ly).trans q1; have f6 := (hBA.cell (p := ⟨gy, 2, none⟩) ly).trans q2; have f7 := (hBA.cell (p := ⟨gy, 3, none⟩) ly).trans q3; have f8 := (hBA.cell (p := ⟨m1 + 1, 0, none⟩) lb).trans e0; have f9 := (hBA.cell (p := ⟨m1 + 1, 1, none⟩) lb).trans e1)
                  | (go_at_call 22; refine ((unhide HRf).below hBA).steps.mono ?_; rintro e wS ⟨rfl, rfl⟩)
                  | (go_at_call 24; refine ((unhide HRf).below hBA).words.mono ?_; rintro e wB ⟨rfl, hwB, hBB⟩; have g0 := (hBB.cell (p := ⟨gx, 0, none⟩) (by show gx < _; omega)).trans f0; have g1 := (hBB.cell (p := ⟨gx, 1, none⟩) (by show gx < _; omega)).trans f1; have g2 := (hBB.cell (p := ⟨gx, 2, none⟩) (by show gx < _; omega)).trans f2; have g3 := (hBB.cell (p := ⟨gx, 3, none⟩) (by show gx < _; omega)).trans f3
                     have g4 := (hBB.cell (p := ⟨gy, 0, none⟩) (by show gy < _; omega)).trans f4; have g5 := (hBB.cell (p := ⟨gy, 1, none⟩) (by show gy < _; omega)).trans f5; have g6 := (hBB.cell (p := ⟨gy, 2, none⟩) (by show gy < _; omega)).trans f6; have g7 := (hBB.cell (p := ⟨gy, 3, none⟩) (by show gy < _; omega)).trans f7; have g8 := (hBB.cell (p := ⟨m1 + 1, 0, none⟩) (by show m1 + 1 < _; omega)).trans f8; have g9 := (hBB.cell (p := ⟨m1 + 1, 1, none⟩) (by show m1 + 1 < _; omega)).trans f9)
                  | (go_at_call 23; refine (same_true _ m1 n ws' _ hn64 (unhide HLW) hwB ((hBB.block m1 (by omega)).trans ((hBA.block m1 lc).trans (unhide HCW)))).mono ?_; rintro e wC ⟨rfl, mC, rfl⟩; have i0 : (wB.drewN mC).cell? ⟨gx, 0, none⟩ = _ := g0; have i1 : (wB.drewN mC).cell? ⟨gx, 1, none⟩ = _ := g1; have i2 : (wB.drewN mC).cell? ⟨gx, 2, none⟩ = _ := g2; have i3 : (wB.drewN mC).cell? ⟨gx, 3, none⟩ = _ := g3
                     have i4 : (wB.drewN mC).cell? ⟨gy, 0, none⟩ = _ := g4; have i5 : (wB.drewN mC).cell? ⟨gy, 1, none⟩ = _ := g5; have i6 : (wB.drewN mC).cell? ⟨gy, 2, none⟩ = _ := g6; have i7 : (wB.drewN mC).cell? ⟨gy, 3, none⟩ = _ := g7; have i8 : (wB.drewN mC).cell? ⟨m1 + 1, 0, none⟩ = _ := g8; have i9 : (wB.drewN mC).cell? ⟨m1 + 1, 1, none⟩ = _ := g9))
              go_wp2_with fail
              go_roundw
              case rel =>
                have hdn : Below wB.heap.size wB (wB.drewN mC) := ⟨rfl, rfl, rfl, Nat.le_refl _, fun _ _ => rfl⟩
                have zB := hBB.size
                exact ⟨k + 1, by omega, by omega, by go_num, ⟨ws', s2, ms', xs', (((unhide HRf).below hBA).below hBB).below hdn, (((unhide HSf).below hBA).below hBB).below hdn, unhide HLE, (unhide HLE0).trans (unhide HML), unhide HSime, by rw [← unhide HES]; exact unhide HGc, by have := unhide HES; omega, by have := unhide HES; omega⟩, (((unhide HBf).trans (hBA.mono zf)).trans (hBB.mono (by omega))).trans (hdn.mono (by omega)), by show hh ≤ wB.heap.size; omega⟩
              case measure => simp [intOf]; omega
            · obtain ⟨T, E, ms', ws', d, hst⟩ : ∃ T E ms' ws' d, stepI ms ws (pk : Int) = (T, E, ms', ws', d) := ⟨_, _, _, _, _, rfl⟩
              have K3 := step_I r (hh + 1) hh q n ws st (pk : Int) ms wb (unhide HRb) (unhide HG) s0 (by omega)
              have K4 := fun W hW => rstep_I rr (m1 + 1) m1 aa ca la sa n cp jp ws st (pk : Int) xs ms W hW (unhide HX) (unhide HSIM) (unhide HG) s0 (by omega)
              have hd := stepI_d ms ws (pk : Int)
              have hle0 := stepI_len ms ws (pk : Int)
              rw [hst] at K3 K4 hd hle0
              dsimp only at K3 K4 hd hle0
              have HLE0 := hide hle0
              clear hle0
              have HST := hide hst
              have HK3 := hide K3
              have HK4 := hide K4
              clear K3 K4 hst
              refine (unhide HK3).mono ?_
              rintro e wc ⟨rfl, hRc, hGc, hFc⟩
              have Bc := (unhide HSP).below1 Bb zb' hFc
              have zc : hh ≤ wc.heap.size := by have := hFc.size; omega
              have HSc := hide ((unhide HSP).sys (unhide HSb) hFc)
              have HRc := hide hRc
              have HGc := hide hGc
              clear HK3 hRc hGc hFc Bb zb' cb0 HRb HSb HG
              unfold St.told
              go_wp2_with fail
              have hBd : Below wc.heap.size wc (wc.alloc (.cells #[.bool T.done, .int .i64 T.sA, .int .i64 T.sB, .int .i64 T.tries] 33)) := (Below.refl _ _).alloc (Nat.le_refl _) _
              have hgd : (wc.alloc (.cells #[.bool T.done, .int .i64 T.sA, .int .i64 T.sB, .int .i64 T.tries] 33)).heap[wc.heap.size]? = some (.cells #[.bool T.done, .int .i64 T.sA, .int .i64 T.sB, .int .i64 T.tries] 33) := putAll _ _ rfl
              obtain ⟨wd, ewd⟩ : ∃ wd, wc.alloc (.cells #[.bool T.done, .int .i64 T.sA, .int .i64 T.sB, .int .i64 T.tries] 33) = wd := ⟨_, rfl⟩
              rw [ewd] at hBd hgd ⊢
              clear ewd
              refine (unhide HK4 wd ((unhide HSc).below hBd)).mono ?_
              rintro e we ⟨y, xs', rfl, hy, hSe, hle, hSime, hFe⟩
              subst hy
              obtain ⟨y1, y2, y3, y4, y5, y6, y7⟩ := RSys.lts (unhide HSc)
              obtain ⟨gx, egx⟩ : ∃ g, wc.heap.size = g := ⟨_, rfl⟩
              have hgx0 := (Array.getElem?_eq_some_iff.1 hgd).1
              have hge := (hFe.block wc.heap.size hgx0 (by omega) (by omega) (by omega) (by omega) (by omega) (by omega)).trans hgd
              have hgxe : wc.heap.size < we.heap.size := by have := hFe.size; omega
              have hRe := (unhide HSP).run ((unhide HRc).below hBd) hFe
              have Be := (unhide HSP).below2 (Bc.trans (hBd.mono zc)) (by omega) hFe
              have ze : hh ≤ we.heap.size := by omega
              rw [egx] at hge hgxe ⊢
              clear HK4 hBd hgd HSc HRc hFe y1 y2 y3 y4 y5 y6 y7 Bc zc hgx0 egx
              have HRe := hide hRe
              have HSe := hide hSe
              have HSime := hide hSime
              have HLE := hide hle
              clear hRe hSe hSime hle
              unfold St.told
              go_wp2_with fail
              have hBf : Below we.heap.size we (we.alloc (.cells #[.bool y.done, .int .i64 y.sA, .int .i64 y.sB, .int .i64 y.tries] 50)).drew := ⟨rfl, rfl, rfl, by simp [World.drew], fun k hk => Below.heap_alloc _ _ _ hk⟩
              have hgf : (we.alloc (.cells #[.bool y.done, .int .i64 y.sA, .int .i64 y.sB, .int .i64 y.tries] 50)).drew.heap[we.heap.size]? = some (.cells #[.bool y.done, .int .i64 y.sA, .int .i64 y.sB, .int .i64 y.tries] 50) := putAll _ _ rfl
              obtain ⟨gy, egy⟩ : ∃ g, we.heap.size = g := ⟨_, rfl⟩
              have hgx := (hBf.block gx hgxe).trans hge
              have Rf := (unhide HRe).below hBf
              have Sf := (unhide HSe).below hBf
              have Bf := Be.trans (hBf.mono ze)
              have zf : hh ≤ (we.alloc (.cells #[.bool y.done, .int .i64 y.sA, .int .i64 y.sB, .int .i64 y.tries] 50)).drew.heap.size := by simp [World.drew]; omega
              rw [egy] at hgf ⊢
              obtain ⟨wf0, ewf0⟩ : ∃ W, we.alloc (.cells #[.bool y.done, .int .i64 y.sA, .int .i64 y.sB, .int .i64 y.tries] 50) = W := ⟨_, rfl⟩
              rw [ewf0] at hgf hgx Rf Sf Bf zf ⊢
              clear hBf hge hgxe HRe HSe Be ze egy ewf0
              have K5 := same_yes y wf0.drew
              unfold St.told at K5
              have HK5 := hide K5
              have lx := (Array.getElem?_eq_some_iff.1 hgx).1
              have ly := (Array.getElem?_eq_some_iff.1 hgf).1
              obtain ⟨_, lb, lc, _, _, _, _⟩ := RSys.lts Sf
              obtain ⟨x0', x1', x2', x3'⟩ := cells4 hgx
              obtain ⟨q0, q1, q2, q3⟩ := cells4 hgf
              obtain ⟨e0, e1, hcw, hlw, hn64⟩ := RSys.memc Sf
              have HRf := hide Rf
              have HSf := hide Sf
              have HBf := hide Bf
              have HCW := hide hcw
              have HLW := hide hlw
              clear K5 Rf Sf Bf hgx hgf hcw hlw
              generalize y.shown = ysh at *
              obtain ⟨s2, es2⟩ : ∃ s2, st + d = s2 := ⟨_, rfl⟩
              have HES := hide es2
              rw [es2] at e1 HRf HSf
              clear es2
              go_region_held3 (fun w' => w'.cell? ⟨gx, 0, none⟩ = some (.bool ysh.done) ∧ w'.cell? ⟨gx, 1, none⟩ = some (.int .i64 ysh.sA) ∧ w'.cell? ⟨gx, 2, none⟩ = some (.int .i64 ysh.sB) ∧ w'.cell? ⟨gx, 3, none⟩ = some (.int .i64 ysh.tries) ∧
                  w'.cell? ⟨gy, 0, none⟩ = some (.bool y.done) ∧ w'.cell? ⟨gy, 1, none⟩ = some (.int .i64 y.sA) ∧ w'.cell? ⟨gy, 2, none⟩ = some (.int .i64 y.sB) ∧ w'.cell? ⟨gy, 3, none⟩ = some (.int .i64 y.tries) ∧ w'.cell? ⟨m1 + 1, 0, none⟩ = some (.slice (some ⟨m1, 0, none⟩) n n) ∧ w'.cell? ⟨m1 + 1, 1, none⟩ = some (.int .i64 s2)) (go_keep)
                (first
                  | (go_at_call 21; refine (unhide HK5).mono ?_; rintro e wA ⟨rfl, hBA⟩; have zA := hBA.size; have f0 := (hBA.cell (p := ⟨gx, 0, none⟩) lx).trans x0'; have f1 := (hBA.cell (p := ⟨gx, 1, none⟩) lx).trans x1'; have f2 := (hBA.cell (p := ⟨gx, 2, none⟩) lx).trans x2'; have f3 := (hBA.cell (p := ⟨gx, 3, none⟩) lx).trans x3'
                     have f4 := (hBA.cell (p := ⟨gy, 0, none⟩) ly).trans q0; have f5 := (hBA.cell (p := ⟨gy, 1, none⟩) ly).trans q1; have f6 := (hBA.cell (p := ⟨gy, 2, none⟩) ly).trans q2; have f7 := (hBA.cell (p := ⟨gy, 3, none⟩) ly).trans q3; have f8 := (hBA.cell (p := ⟨m1 + 1, 0, none⟩) lb).trans e0; have f9 := (hBA.cell (p := ⟨m1 + 1, 1, none⟩) lb).trans e1)
                  | (go_at_call 22; refine ((unhide HRf).below hBA).steps.mono ?_; rintro e wS ⟨rfl, rfl⟩)
                  | (go_at_call 24; refine ((unhide HRf).below hBA).words.mono ?_; rintro e wB ⟨rfl, hwB, hBB⟩; have g0 := (hBB.cell (p := ⟨gx, 0, none⟩) (by show gx < _; omega)).trans f0; have g1 := (hBB.cell (p := ⟨gx, 1, none⟩) (by show gx < _; omega)).trans f1; have g2 := (hBB.cell (p := ⟨gx, 2, none⟩) (by show gx < _; omega)).trans f2; have g3 := (hBB.cell (p := ⟨gx, 3, none⟩) (by show gx < _; omega)).trans f3
                     have g4 := (hBB.cell (p := ⟨gy, 0, none⟩) (by show gy < _; omega)).trans f4; have g5 := (hBB.cell (p := ⟨gy, 1, none⟩) (by show gy < _; omega)).trans f5; have g6 := (hBB.cell (p := ⟨gy, 2, none⟩) (by show gy < _; omega)).trans f6; have g7 := (hBB.cell (p := ⟨gy, 3, none⟩) (by show gy < _; omega)).trans f7; have g8 := (hBB.cell (p := ⟨m1 + 1, 0, none⟩) (by show m1 + 1 < _; omega)).trans f8; have g9 := (hBB.cell (p := ⟨m1 + 1, 1, none⟩) (by show m1 + 1 < _; omega)).trans f9)
                  | (go_at_call 23; refine (same_true _ m1 n ws' _ hn64 (unhide HLW) hwB ((hBB.block m1 (by omega)).trans ((hBA.block m1 lc).trans (unhide HCW)))).mono ?_; rintro e wC ⟨rfl, mC, rfl⟩; have i0 : (wB.drewN mC).cell? ⟨gx, 0, none⟩ = _ := g0; have i1 : (wB.drewN mC).cell? ⟨gx, 1, none⟩ = _ := g1; have i2 : (wB.drewN mC).cell? ⟨gx, 2, none⟩ = _ := g2; have i3 : (wB.drewN mC).cell? ⟨gx, 3, none⟩ = _ := g3
                     have i4 : (wB.drewN mC).cell? ⟨gy, 0, none⟩ = _ := g4; have i5 : (wB.drewN mC).cell? ⟨gy, 1, none⟩ = _ := g5; have i6 : (wB.drewN mC).cell? ⟨gy, 2, none⟩ = _ := g6; have i7 : (wB.drewN mC).cell? ⟨gy, 3, none⟩ = _ := g7; have i8 : (wB.drewN mC).cell? ⟨m1 + 1, 0, none⟩ = _ := g8; have i9 : (wB.drewN mC).cell? ⟨m1 + 1, 1, none⟩ = _ := g9))
              go_wp2_with fail
              go_roundw
              case rel =>
                have hdn : Below wB.heap.size wB (wB.drewN mC) := ⟨rfl, rfl, rfl, Nat.le_refl _, fun _ _ => rfl⟩
                have zB := hBB.size
                exact ⟨k + 1, by omega, by omega, by go_num, ⟨ws', s2, ms', xs', (((unhide HRf).below hBA).below hBB).below hdn, (((unhide HSf).below hBA).below hBB).below hdn, unhide HLE, (unhide HLE0).trans (unhide HML), unhide HSime, by rw [← unhide HES]; exact unhide HGc, by have := unhide HES; omega, by have := unhide HES; omega⟩, (((unhide HBf).trans (hBA.mono zf)).trans (hBB.mono (by omega))).trans (hdn.mono (by omega)), by show hh ≤ wB.heap.size; omega⟩
              case measure => simp [intOf]; omega
          · have HHR := hide hR
            have HHS := hide hS
            have HSIM := hide hSim
            have HX := hide hx
            have HML := hide hml
            clear hR hS hSim hx hml
            by_cases hkl : k < lenb
            · have j1 : (k : Int) < (lenb : Int) := by omega
              have j2 : ¬ (k : Int) < 200 := by omega
              go_wp2_with fail
              refine (all_anyL r (hh + 1) hh q n len ws st ms (unhide HML) wr (unhide HHR)).mono ?_
              rintro e wa ⟨rfl, hwa, hBa⟩
              have za := hBa.size
              have HRA := hide (rall rr (m1 + 1) m1 aa ca la sa n cp len jp ws st xs wa ((unhide HHS).below hBa) ((unhide HX).trans (unhide HML)))
              go_wp2_with fail
              refine (unhide HRA).mono ?_
              rintro e wb ⟨vb, rfl, hown, hBb⟩
              have zb := hBb.size
              have hlb := (Array.getElem?_eq_some_iff.1 hwa).1
              have hwb := (hBb.block wr.heap.size hlb).trans hwa
              have Bb : Below hh w1 wb := (hB.trans (hBa.mono hs)).trans (hBb.mono (by omega))
              obtain ⟨ka, kc, rfl⟩ := own_form hown
              obtain ⟨gl, egl⟩ : ∃ g, wr.heap.size = g := ⟨_, rfl⟩
              rw [egl] at hwb hlb ⊢
              have zb2 : hh ≤ wb.heap.size := by omega
              clear HRA hwa hBa hBb hB
              have HOWN := hide hown
              have HWB := hide hwb
              clear hown hwb
              go_wp2_with fail
              go_loopw [25] (fun i wz => ∃ t : Nat, t ≤ len ∧ i = .int .i64 t ∧ Below wb.heap.size wb wz ∧ wb.heap.size ≤ wz.heap.size) (fun i _ => len - (intOf i).toNat)
              case atStart => exact ⟨0, Nat.zero_le _, rfl, Below.refl _ _, Nat.le_refl _⟩
              case round =>
                obtain ⟨t, ht, rfl, hBz, hsz⟩ := hrel
                by_cases htl : t < len
                · have u1 : (t : Int) < ((len : Nat) : Int) := by omega
                  have u0 : (0 : Int) ≤ (t : Int) := by omega
                  have tm : t < ms.length := by rw [unhide HML]; exact htl
                  have tx : t < xs.length := by rw [unhide HX]; exact tm
                  have em : ms[t]? = some ms[t] := List.getElem?_eq_getElem tm
                  have ex : xs[t]? = some xs[t] := List.getElem?_eq_getElem tx
                  have hsh := (unhide HSIM t _ _ em ex).shown
                  obtain ⟨gk, rfl, hgk, c0, c1, c2, c3⟩ := own_cells (s := xs[t].st.shown) (unhide HOWN) (by simp [ex]) htl
                  have ems : (ms.map Mach.st)[t]? = some ms[t].st := by simp [em]
                  have l0 := rows_cell St.row_length (unhide HWB) ems 0 (by omega)
                  have l1 := rows_cell St.row_length (unhide HWB) ems 1 (by omega)
                  have l2 := rows_cell St.row_length (unhide HWB) ems 2 (by omega)
                  have l3 := rows_cell St.row_length (unhide HWB) ems 3 (by omega)
                  rw [← hsh] at l0 l1 l2 l3
                  have K5 := same_yes xs[t].st.shown wr.drew
                  rw [shown_shown] at K5
                  unfold St.told at K5
                  clear ems hsh em ex
                  generalize xs[t].st.shown = s at *
                  have HK5 := hide K5
                  have hgl : gl < wb.heap.size := by have := (Array.getElem?_eq_some_iff.1 (unhide HWB)).1; omega
                  have r0 : wr.cell? ⟨gl, t * 4, none⟩ = some (.bool s.done) := (hBz.cell (p := ⟨gl, t * 4, none⟩) hgl).trans l0
                  have r1 : wr.cell? ⟨gl, t * 4 + 1, none⟩ = some (.int .i64 s.sA) := (hBz.cell (p := ⟨gl, t * 4 + 1, none⟩) hgl).trans l1
                  have r2 : wr.cell? ⟨gl, t * 4 + 2, none⟩ = some (.int .i64 s.sB) := (hBz.cell (p := ⟨gl, t * 4 + 2, none⟩) hgl).trans l2
                  have r3 : wr.cell? ⟨gl, t * 4 + 3, none⟩ = some (.int .i64 s.tries) := (hBz.cell (p := ⟨gl, t * 4 + 3, none⟩) hgl).trans l3
                  have v0 := (hBz.cell (p := ⟨gk, t * 4, none⟩) hgk).trans c0
                  have v1 := (hBz.cell (p := ⟨gk, t * 4 + 1, none⟩) hgk).trans c1
                  have v2 := (hBz.cell (p := ⟨gk, t * 4 + 2, none⟩) hgk).trans c2
                  have v3 := (hBz.cell (p := ⟨gk, t * 4 + 3, none⟩) hgk).trans c3
                  have lz1 : gl < wr.drew.heap.size := by show gl < wr.heap.size; omega
                  have lz2 : gk < wr.drew.heap.size := by show gk < wr.heap.size; omega
                  clear K5 l0 l1 l2 l3 c0 c1 c2 c3
                  go_wp2_with fail
                  go_region_held3 (fun w' => w'.cell? ⟨gl, t * 4, none⟩ = some (.bool s.done) ∧ w'.cell? ⟨gl, t * 4 + 1, none⟩ = some (.int .i64 s.sA) ∧ w'.cell? ⟨gl, t * 4 + 2, none⟩ = some (.int .i64 s.sB) ∧ w'.cell? ⟨gl, t * 4 + 3, none⟩ = some (.int .i64 s.tries) ∧
                      w'.cell? ⟨gk, t * 4, none⟩ = some (.bool s.done) ∧ w'.cell? ⟨gk, t * 4 + 1, none⟩ = some (.int .i64 s.sA) ∧ w'.cell? ⟨gk, t * 4 + 2, none⟩ = some (.int .i64 s.sB) ∧ w'.cell? ⟨gk, t * 4 + 3, none⟩ = some (.int .i64 s.tries)) (go_keep)
                    (first
                      | (go_at_call 21; refine (unhide HK5).mono ?_; rintro e wA ⟨rfl, hBA⟩; have f0 := (hBA.cell (p := ⟨gl, t * 4, none⟩) lz1).trans r0; have f1 := (hBA.cell (p := ⟨gl, t * 4 + 1, none⟩) lz1).trans r1; have f2 := (hBA.cell (p := ⟨gl, t * 4 + 2, none⟩) lz1).trans r2; have f3 := (hBA.cell (p := ⟨gl, t * 4 + 3, none⟩) lz1).trans r3
                         have f4 := (hBA.cell (p := ⟨gk, t * 4, none⟩) lz2).trans v0; have f5 := (hBA.cell (p := ⟨gk, t * 4 + 1, none⟩) lz2).trans v1; have f6 := (hBA.cell (p := ⟨gk, t * 4 + 2, none⟩) lz2).trans v2; have f7 := (hBA.cell (p := ⟨gk, t * 4 + 3, none⟩) lz2).trans v3))
                  go_wp2_with fail
                  go_roundw
                  case rel =>
                    have hBd : Below wb.heap.size wb wr.drew := ⟨hBz.os, hBz.tape, hBz.output, hBz.size, hBz.block⟩
                    have hsd : wb.heap.size ≤ wr.drew.heap.size := hsz
                    have zA := hBA.size
                    exact ⟨t + 1, by omega, by go_num, hBd.trans (hBA.mono hsd), by omega⟩
                  case measure => simp [intOf]; omega
                · obtain rfl : t = len := by omega
                  have u1 : ¬ ((t : Nat) : Int) < ((t : Nat) : Int) := by omega
                  go_wp2_with fail
                  refine (known_true _).mono ?_
                  rintro e w9 ⟨rfl, hB9⟩
                  go_wp2_with fail
                  go_ret
                  exact ⟨rfl, by rw [unhide HH]; exact (Bb.trans (hBz.mono zb2)).trans (hB9.mono (by omega))⟩
            · have j1 : ¬ (k : Int) < (lenb : Int) := by omega
              go_wp2_with fail
              refine (all_anyL r (hh + 1) hh q n len ws st ms (unhide HML) wr (unhide HHR)).mono ?_
              rintro e wa ⟨rfl, hwa, hBa⟩
              have za := hBa.size
              have HRA := hide (rall rr (m1 + 1) m1 aa ca la sa n cp len jp ws st xs wa ((unhide HHS).below hBa) ((unhide HX).trans (unhide HML)))
              go_wp2_with fail
              refine (unhide HRA).mono ?_
              rintro e wb ⟨vb, rfl, hown, hBb⟩
              have zb := hBb.size
              have hlb := (Array.getElem?_eq_some_iff.1 hwa).1
              have hwb := (hBb.block wr.heap.size hlb).trans hwa
              have Bb : Below hh w1 wb := (hB.trans (hBa.mono hs)).trans (hBb.mono (by omega))
              obtain ⟨ka, kc, rfl⟩ := own_form hown
              obtain ⟨gl, egl⟩ : ∃ g, wr.heap.size = g := ⟨_, rfl⟩
              rw [egl] at hwb hlb ⊢
              have zb2 : hh ≤ wb.heap.size := by omega
              clear HRA hwa hBa hBb hB
              have HOWN := hide hown
              have HWB := hide hwb
              clear hown hwb
              go_wp2_with fail
              go_loopw [25] (fun i wz => ∃ t : Nat, t ≤ len ∧ i = .int .i64 t ∧ Below wb.heap.size wb wz ∧ wb.heap.size ≤ wz.heap.size) (fun i _ => len - (intOf i).toNat)
              case atStart => exact ⟨0, Nat.zero_le _, rfl, Below.refl _ _, Nat.le_refl _⟩
              case round =>
                obtain ⟨t, ht, rfl, hBz, hsz⟩ := hrel
                by_cases htl : t < len
                · have u1 : (t : Int) < ((len : Nat) : Int) := by omega
                  have u0 : (0 : Int) ≤ (t : Int) := by omega
                  have tm : t < ms.length := by rw [unhide HML]; exact htl
                  have tx : t < xs.length := by rw [unhide HX]; exact tm
                  have em : ms[t]? = some ms[t] := List.getElem?_eq_getElem tm
                  have ex : xs[t]? = some xs[t] := List.getElem?_eq_getElem tx
                  have hsh := (unhide HSIM t _ _ em ex).shown
                  obtain ⟨gk, rfl, hgk, c0, c1, c2, c3⟩ := own_cells (s := xs[t].st.shown) (unhide HOWN) (by simp [ex]) htl
                  have ems : (ms.map Mach.st)[t]? = some ms[t].st := by simp [em]
                  have l0 := rows_cell St.row_length (unhide HWB) ems 0 (by omega)
                  have l1 := rows_cell St.row_length (unhide HWB) ems 1 (by omega)
                  have l2 := rows_cell St.row_length (unhide HWB) ems 2 (by omega)
                  have l3 := rows_cell St.row_length (unhide HWB) ems 3 (by omega)
                  rw [← hsh] at l0 l1 l2 l3
                  have K5 := same_yes xs[t].st.shown wr.drew
                  rw [shown_shown] at K5
                  unfold St.told at K5
                  clear ems hsh em ex
                  generalize xs[t].st.shown = s at *
                  have HK5 := hide K5
                  have hgl : gl < wb.heap.size := by have := (Array.getElem?_eq_some_iff.1 (unhide HWB)).1; omega
                  have r0 : wr.cell? ⟨gl, t * 4, none⟩ = some (.bool s.done) := (hBz.cell (p := ⟨gl, t * 4, none⟩) hgl).trans l0
                  have r1 : wr.cell? ⟨gl, t * 4 + 1, none⟩ = some (.int .i64 s.sA) := (hBz.cell (p := ⟨gl, t * 4 + 1, none⟩) hgl).trans l1
                  have r2 : wr.cell? ⟨gl, t * 4 + 2, none⟩ = some (.int .i64 s.sB) := (hBz.cell (p := ⟨gl, t * 4 + 2, none⟩) hgl).trans l2
                  have r3 : wr.cell? ⟨gl, t * 4 + 3, none⟩ = some (.int .i64 s.tries) := (hBz.cell (p := ⟨gl, t * 4 + 3, none⟩) hgl).trans l3
                  have v0 := (hBz.cell (p := ⟨gk, t * 4, none⟩) hgk).trans c0
                  have v1 := (hBz.cell (p := ⟨gk, t * 4 + 1, none⟩) hgk).trans c1
                  have v2 := (hBz.cell (p := ⟨gk, t * 4 + 2, none⟩) hgk).trans c2
                  have v3 := (hBz.cell (p := ⟨gk, t * 4 + 3, none⟩) hgk).trans c3
                  have lz1 : gl < wr.drew.heap.size := by show gl < wr.heap.size; omega
                  have lz2 : gk < wr.drew.heap.size := by show gk < wr.heap.size; omega
                  clear K5 l0 l1 l2 l3 c0 c1 c2 c3
                  go_wp2_with fail
                  go_region_held3 (fun w' => w'.cell? ⟨gl, t * 4, none⟩ = some (.bool s.done) ∧ w'.cell? ⟨gl, t * 4 + 1, none⟩ = some (.int .i64 s.sA) ∧ w'.cell? ⟨gl, t * 4 + 2, none⟩ = some (.int .i64 s.sB) ∧ w'.cell? ⟨gl, t * 4 + 3, none⟩ = some (.int .i64 s.tries) ∧
                      w'.cell? ⟨gk, t * 4, none⟩ = some (.bool s.done) ∧ w'.cell? ⟨gk, t * 4 + 1, none⟩ = some (.int .i64 s.sA) ∧ w'.cell? ⟨gk, t * 4 + 2, none⟩ = some (.int .i64 s.sB) ∧ w'.cell? ⟨gk, t * 4 + 3, none⟩ = some (.int .i64 s.tries)) (go_keep)
                    (first
                      | (go_at_call 21; refine (unhide HK5).mono ?_; rintro e wA ⟨rfl, hBA⟩; have f0 := (hBA.cell (p := ⟨gl, t * 4, none⟩) lz1).trans r0; have f1 := (hBA.cell (p := ⟨gl, t * 4 + 1, none⟩) lz1).trans r1; have f2 := (hBA.cell (p := ⟨gl, t * 4 + 2, none⟩) lz1).trans r2; have f3 := (hBA.cell (p := ⟨gl, t * 4 + 3, none⟩) lz1).trans r3
                         have f4 := (hBA.cell (p := ⟨gk, t * 4, none⟩) lz2).trans v0; have f5 := (hBA.cell (p := ⟨gk, t * 4 + 1, none⟩) lz2).trans v1; have f6 := (hBA.cell (p := ⟨gk, t * 4 + 2, none⟩) lz2).trans v2; have f7 := (hBA.cell (p := ⟨gk, t * 4 + 3, none⟩) lz2).trans v3))
                  go_wp2_with fail
                  go_roundw
                  case rel =>
                    have hBd : Below wb.heap.size wb wr.drew := ⟨hBz.os, hBz.tape, hBz.output, hBz.size, hBz.block⟩
                    have hsd : wb.heap.size ≤ wr.drew.heap.size := hsz
                    have zA := hBA.size
                    exact ⟨t + 1, by omega, by go_num, hBd.trans (hBA.mono hsd), by omega⟩
                  case measure => simp [intOf]; omega
                · obtain rfl : t = len := by omega
                  have u1 : ¬ ((t : Nat) : Int) < ((t : Nat) : Int) := by omega
                  go_wp2_with fail
                  refine (known_true _).mono ?_
                  rintro e w9 ⟨rfl, hB9⟩
                  go_wp2_with fail
                  go_ret
                  exact ⟨rfl, by rw [unhide HH]; exact (Bb.trans (hBz.mono zb2)).trans (hB9.mono (by omega))⟩
  · have k10 : (10 : Int) < (len : Int) := by omega
    have hl : (js0.take 10).length = 10 := by have := unhide HL0; simp; omega
    have hJ := (((unhide HJ0).take 10).below hB2 (by rw [unhide HH]; exact Nat.le_refl _)).below hB3 (by rw [unhide HM1]; exact Nat.le_refl _)
    generalize js0.take 10 = js at *
    clear HJ0 HL0
    go_wp2_with fail
    refine (snew (hh + 1) hh n 10 cap (List.replicate n 0) 0 0 0 0 0 false js pa _ hM3 hJ hl (by omega)).mono ?_
    rintro e w4 ⟨hB4, hs4⟩
    have z4 := hB4.size
    have hJ4 := hJ.below hB4 (Nat.le_refl _)
    have hN4 := hN3.below hB4
    rcases hs4 with ⟨hbad, rfl⟩ | ⟨hf, h8, rfl⟩ | ⟨hf, h8, r, q, rfl, hr, hq, hR4⟩
    · have HBAD := hide hbad
      clear hbad
      go_wp2_with fail
      refine (rin 10 cap pa js _ hJ4 hl (by omega)).mono ?_
      rintro e w5 ⟨v5, rfl, hown5, hB5⟩
      obtain ⟨pc, cc, rfl, hJ5⟩ := JobsAt.of_owns82 hl hown5
      have z5 := hB5.size
      go_wp2_with fail
      refine (rnew (m1 + 1) m1 n 10 cc (List.replicate n 0) 0 0 0 0 0 false js pc _ (hN4.below hB5) hJ5 hl (by omega)).mono ?_
      rintro e w6 ⟨hB6, ⟨-, rfl⟩ | ⟨hf, -⟩ | ⟨hf, -⟩⟩
      · have z6 := hB6.size
        have B6 : Below hh w1 w6 := ((((hB2.trans (hB3.mono (by omega))).trans (hB4.mono (by omega))).trans (hB5.mono (by omega))).trans (hB6.mono (by omega)))
        go_wp2_with fail
        refine (known_true _).mono ?_
        rintro e w7 ⟨rfl, hB7⟩
        go_wp2_with fail
        go_ret
        exact ⟨rfl, by rw [unhide HH]; exact B6.trans (hB7.mono (by omega))⟩
      · obtain ⟨k, j, hj, hn⟩ := unhide HBAD; exact absurd (hf k j hj) hn
      · obtain ⟨k, j, hj, hn⟩ := unhide HBAD; exact absurd (hf k j hj) hn
    · have HF := hide hf
      clear hf
      go_wp2_with fail
      refine (rin 10 cap pa js _ hJ4 hl (by omega)).mono ?_
      rintro e w5 ⟨v5, rfl, hown5, hB5⟩
      obtain ⟨pc, cc, rfl, hJ5⟩ := JobsAt.of_owns82 hl hown5
      have z5 := hB5.size
      go_wp2_with fail
      refine (rnew (m1 + 1) m1 n 10 cc (List.replicate n 0) 0 0 0 0 0 false js pc _ (hN4.below hB5) hJ5 hl (by omega)).mono ?_
      rintro e w6 ⟨hB6, ⟨hbad, -⟩ | ⟨-, -, rfl⟩ | ⟨-, h8', -⟩⟩
      · obtain ⟨k, j, hj, hn⟩ := hbad; exact absurd (unhide HF k j hj) hn
      · have z6 := hB6.size
        have B6 : Below hh w1 w6 := ((((hB2.trans (hB3.mono (by omega))).trans (hB4.mono (by omega))).trans (hB5.mono (by omega))).trans (hB6.mono (by omega)))
        go_wp2_with fail
        refine (known_true _).mono ?_
        rintro e w7 ⟨rfl, hB7⟩
        go_wp2_with fail
        go_ret
        exact ⟨rfl, by rw [unhide HH]; exact B6.trans (hB7.mono (by omega))⟩
      · omega
    · exact absurd h8 (by omega)
end Go.Proofs.Ytkgeapmafpeapaa.spinPlays
