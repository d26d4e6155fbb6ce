/-
  The document's Unbind and Down.
-/
import Derived.Test.YthmpplcaomgdoaaMRefE
namespace Go.Proofs.Ythmpplcaomgdoaa.Mt
open Go.RowKit
attribute [local go_sem ↓] Go.wp_at_zero Go.wp_at_succ
section
variable {B : Int} {t : T} {rs : List Rm} {base b : Nat} {w : World}
theorem runbind_no (h : RT t rs) (hw : Wf B t) (hR : Rs base w b rs) (hl : rs.length ≤ 100) (m k : Int) (hk : unbE t.es m = k) (h0 : k ≠ 0) :
    Calls Try.prog 19 #[.pointer (some ⟨b, 0, none⟩), I m] w fun e w' => e = .returned (I k) ∧ Below w.heap.size w w' := by
  have H1 := hide (ris_any base b rs m w hR)
  have H2 := hide (rabove_any base b rs m w hR (by omega))
  rw [h.is hw] at H1
  rw [h.above hw] at H2
  by_cases m0 : m = 0
  · subst m0
    have ha : any t.es (isN 0) = false := any_false.2 fun q hq => by
      have := hw.num q hq
      simp [isN]; omega
    obtain rfl : 1 = k := by simpa [unbE, ha] using hk
    clear H1 H2 hR h hw hk ha
    go_enter Try.func19, Try.ntmps19
    go_wp2_with fail
    go_ret
    exact ⟨rfl, Below.refl _ _⟩
  · have e1 : rootIs t.es m = any t.es (isN m) := by rw [rootIs, if_neg m0]
    rw [e1] at H1
    have q0 : (m == 0) = false := by simp [m0]
    cases ha : any t.es (isN m) with
    | false =>
      rw [ha] at H1
      obtain rfl : 1 = k := by simpa [unbE, ha] using hk
      clear H2 hR h hw hk ha e1 h0
      go_enter Try.func19, Try.ntmps19
      go_wp2_with fail
      refine (unhide H1).mono ?_
      rintro e w1 ⟨rfl, hw1⟩
      rw [hw1]
      clear hw1 H1
      go_wp2_with fail
      go_ret
      exact ⟨rfl, Below.refl _ _⟩
    | true =>
      rw [ha] at H1
      have hb' : any t.es (isM m) = true := by
        cases hm : any t.es (isM m) with
        | true => rfl
        | false => exact absurd (by simpa [unbE, ha, hm] using hk.symm) h0
      obtain rfl : 15 = k := by simpa [unbE, ha, hb'] using hk
      have hpos : 0 < (abv t.es m).length := by
        have := mt abv_nil.1 (by rw [hb']; simp)
        omega
      clear hR h hw hk ha e1 h0 hb'
      go_enter Try.func19, Try.ntmps19
      go_wp2_with fail
      refine (unhide H1).mono ?_
      rintro e w1 ⟨rfl, hw1⟩
      rw [hw1]
      clear hw1 H1
      go_wp2_with fail
      refine (unhide H2).mono ?_
      rintro e w3 ⟨v, rfl, own, hB3⟩
      obtain ⟨a, cp, rfl⟩ := own_form own
      have HB3 := hide hB3
      have q8 : (0 : Int) < ((abv t.es m).length : Int) := by omega
      clear own hB3 H2 hpos
      generalize (abv t.es m).length = n at *
      go_wp2_with fail
      go_ret
      exact ⟨rfl, unhide HB3⟩
theorem runbind_yes (h : RT t rs) (hw : Wf B t) (hR : Rs base w b rs) (hl : rs.length ≤ 100) (m : Int) (hz : unbE t.es m = 0) :
    Calls Try.prog 19 #[.pointer (some ⟨b, 0, none⟩), I m] w fun e w' => e = .returned (I 0) ∧ (∃ rs', Rs base w' b rs' ∧ RT (t.unbind m) rs' ∧ rs'.length = rs.length) ∧ Fq base b w w' := by
  obtain ⟨z1, z2, z3⟩ := (unb_ok hw m).1 hz
  obtain ⟨j, p, rfl, hp, hRT⟩ := h.unb hw hz
  have H1 := hide (ris_any base b rs (j : Int) w hR)
  have H2 := hide (rabove_any base b rs (j : Int) w hR (by omega))
  rw [h.is hw, z2] at H1
  rw [h.above hw, z3] at H2
  have hj := (List.getElem?_eq_some_iff.1 hp).1
  have HS := hide (fun W (hB : Below w.heap.size w W) => (hR.below hB).setLv hp)
  have HRT := hide hRT
  have hbase := hR.base_le
  have q0 : ((j : Int) == 0) = false := by simpa using z1
  have j1 : (j : Int) < (rs.length : Int) := by omega
  have j0 : (0 : Int) ≤ (j : Int) := by omega
  clear hR h hw hz z2 z3 hRT
  obtain ⟨N, hN⟩ : ∃ N, N = rs.length := ⟨_, rfl⟩
  rw [← hN] at j1 HS
  have HN := hide hN
  clear hN
  go_enter Try.func19, Try.ntmps19
  go_wp2_with fail
  refine (unhide H1).mono ?_
  rintro e w1 ⟨rfl, hw1⟩
  rw [hw1]
  clear hw1 H1
  go_wp2_with fail
  refine (unhide H2).mono ?_
  rintro e w3 ⟨v, rfl, own, hB3⟩
  obtain ⟨a, cp, rfl⟩ := own_form own
  obtain ⟨g, cap, c0, c1, c2, L5, F5⟩ := unhide HS w3 hB3
  have HL5 := hide L5
  have HF5 := hide ((Fq.of_below hB3 hbase).trans F5)
  clear own hB3 H2 HS L5 F5
  go_wp2_with fail
  go_ret
  exact ⟨rfl, ⟨_, unhide HL5, unhide HRT, by simp⟩, unhide HF5⟩
set_option maxRecDepth 100000 in
set_option maxHeartbeats 1000000 in
theorem rdown_any (h : RT t rs) (hw : Wf B t) (hR : Rs base w b rs) (hl : rs.length ≤ 100) (m n : Int) :
    Calls Try.prog 23 #[.pointer (some ⟨b, 0, none⟩), pv m n] w fun e w' => e = .returned (pv (down t.md t.es m n).1 (down t.md t.es m n).2) ∧ Below w.heap.size w w' := by
  obtain ⟨V, hV, hs, hx, hz, hb⟩ := two0 w (.cells #[I m, I n] 29) (.cells #[I 0, I 0] 29)
  have H1 := hide (ris_any base b rs m V (hR.below hb))
  rw [h.is hw] at H1
  obtain ⟨v0, v1⟩ := cells2 hx
  cases hi : rootIs t.es m with
  | false =>
    rw [hi] at H1
    have ha : any t.es (isAt m n) = false := any_false.2 fun p hp => by
      have := hw.up p hp
      simp only [isAt, decide_eq_false_iff_not]
      rintro ⟨e, _⟩
      rw [e, hi] at this
      cases this
    rw [down_stop ha]
    obtain ⟨X1, X2, ⟨x1, x2⟩, ⟨c0, c1⟩, ⟨f0, f1⟩, q1, hfr, hsx⟩ := store2 hz (I m) (I n)
    obtain ⟨z0, z1⟩ := cells2 q1
    have HE := hide (hb.trans (hfr.base (B := w.heap.size) (by omega) (by simp)))
    clear hR h hw hi ha hb hx hz hfr hsx q1
    unfold pv
    go_enter Try.func23, Try.ntmps23
    go_wp2_with fail
    refine (unhide H1).mono ?_
    rintro e w1 ⟨rfl, hw1⟩
    rw [hw1]
    clear hw1 H1
    go_wp2_with fail
    refine bodyPost_ret (v := .agg #[I m, I n]) (by simp [results, Try.results23, go_sem, z0, z1]) rfl ?_
    exact ⟨rfl, unhide HE⟩
  | true =>
    rw [hi] at H1
    have HE := hide hw.eld
    have HOv := hide (fun m n r (ho : Ov rs (lvAt m n) r) => h.over hw ho)
    have HNd : Hid (∀ m n, any t.es (isAt m n) = true → 0 < (fst t.es (isAt m n)).n ∧ ∃ q, rs[(fst t.es (isAt m n)).n.toNat]? = some q ∧ q.nd = (fst t.es (isAt m n)).top) := fun m n ha => ⟨hw.num _ (fst_mem ha).1, _, h.live _ (fst_mem ha).1, rfl⟩
    have HL := hide (fun m n W (hB : Below w.heap.size w W) => over_any base b rs m n W (hR.below hB) (by omega))
    have HC := hide (fun W (hB : Below w.heap.size w W) => (hR.below hB).cells)
    obtain ⟨r, hr⟩ : ∃ r, r = down t.md t.es m n := ⟨_, rfl⟩
    rw [← hr]
    have Hr := hide hr
    have HB := hide hb
    have HX := hide hx
    have HZ := hide hz
    have hbl := hR.lt
    clear hR h hw hi hb hx hz hr
    unfold pv
    go_enter Try.func23, Try.ntmps23
    go_wp2_with fail
    refine (unhide H1).mono ?_
    rintro e w1 ⟨rfl, hw1⟩
    rw [hw1]
    clear hw1 H1 v0 v1
    go_wp2_with fail
    generalize hh : w.heap.size = h at *
    go_loopw [5] (fun _ wr => ∃ m n : Int, r = down t.md t.es m n ∧ wr.heap[h]? = some (.cells #[I m, I n] 29) ∧ wr.heap[h + 1]? = some (.cells #[I 0, I 0] 29) ∧ Below h w wr) (fun _ wr => (t.md + 1 - cInt wr h).toNat)
    case atStart => exact ⟨m, n, unhide Hr, unhide HX, unhide HZ, unhide HB⟩
    case round =>
      clear hV hs HB HX HZ Hr
      obtain ⟨m, n, hr, hx, hz, hb⟩ := hrel
      obtain ⟨x0, x1⟩ := cells2 hx
      have hcm : cInt wr h = m := by rw [cInt, x0]
      have Hc := hide hcm
      have HF := hide (unhide HL m n wr hb)
      have HO2 := hide (fun r (ho : Ov rs (lvAt m n) r) => unhide HOv m n r ho)
      have HX := hide hx
      have HZ := hide hz
      have HB := hide hb
      clear hcm hx hz hb
      cases ha : any t.es (isAt m n) with
      | false =>
        have He : Hid (r = (m, n)) := hide (hr.trans (down_stop ha))
        rw [ha] at HO2
        clear hr HL
        go_wp2_with fail
        refine (unhide HF).mono ?_
        rintro e w1 ⟨⟨q, ho, rfl⟩, hB⟩
        obtain rfl : q = -1 := by simpa using unhide HO2 q ho
        have hz1 := (hB.block _ (lt_of_heap (unhide HZ))).trans (unhide HZ)
        have hx1 := (hB.block _ (lt_of_heap (unhide HX))).trans (unhide HX)
        have hB2 : Below h w w1 := (unhide HB).trans (hB.mono (by have := lt_of_heap (unhide HX); omega))
        obtain ⟨p0, p1⟩ := cells2 hx1
        obtain ⟨X1, X2, ⟨x1', x2'⟩, ⟨c0, c1⟩, ⟨f0, f1⟩, q1, hfr, hsx⟩ := store2 hz1 (I m) (I n)
        obtain ⟨z0, z1⟩ := cells2 q1
        have HE2 := hide (hB2.trans (hfr.base (B := h) (by have := lt_of_heap hx1; omega) (by simp)))
        clear hfr hsx q1 hB2 hz1 hx1 hB HF HB HX HZ x0 x1 ho HO2
        go_wp2_with fail
        refine bodyPost_ret (v := .agg #[I m, I n]) (by simp [results, Try.results23, go_sem, z0, z1]) rfl ?_
        rw [unhide He, hh]
        exact ⟨rfl, unhide HE2⟩
      | true =>
        obtain ⟨g1, g2⟩ := (unhide HE).next ha
        have g3 := hr.trans (down_step (unhide HE) ha)
        obtain ⟨g4, q, g5, g6⟩ := unhide HNd m n ha
        rw [ha] at HO2
        obtain ⟨x, hx⟩ : ∃ x, x = fst t.es (isAt m n) := ⟨_, rfl⟩
        rw [← hx] at g1 g2 g3 g4 g5 g6 HO2
        obtain ⟨j, hj⟩ : ∃ j : Nat, x.n = (j : Int) := ⟨x.n.toNat, by omega⟩
        rw [hj] at g5 HO2
        rw [Int.toNat_natCast] at g5
        have Hg := hide (⟨g1, g2, g3⟩ : m < x.n ∧ x.n ≤ t.md ∧ r = down t.md t.es x.n x.top)
        have Hj := hide hj
        have Hg5 := hide g5
        have Hg6 := hide g6
        have hjl := (List.getElem?_eq_some_iff.1 g5).1
        clear hr HL g1 g2 g3 g4 g5 g6 hx hj ha
        go_wp2_with fail
        refine (unhide HF).mono ?_
        rintro e w1 ⟨⟨q', ho, rfl⟩, hB⟩
        obtain rfl : q' = (j : Int) := by simpa using unhide HO2 q' ho
        have hz1 := (hB.block _ (lt_of_heap (unhide HZ))).trans (unhide HZ)
        have hx1 := (hB.block _ (lt_of_heap (unhide HX))).trans (unhide HX)
        have hB2 : Below h w w1 := (unhide HB).trans (hB.mono (by have := lt_of_heap (unhide HX); omega))
        obtain ⟨g, cap, k0, _, _, _, hcs⟩ := unhide HC w1 hB2
        obtain ⟨_, _, k2, _⟩ := hcs j q (unhide Hg5)
        rw [unhide Hg6] at k2
        obtain ⟨X1, X2, ⟨x1', x2'⟩, ⟨c0, c1⟩, ⟨f0, f1⟩, q1, hfr, hsx⟩ := store2 hx1 (I (j : Int)) (I x.top)
        have HE2 := hide (hB2.trans (hfr.base (B := h) (by have := lt_of_heap hx1; omega) (by simp)))
        have Hq := hide q1
        have Hz := hide ((hfr.blk (h + 1) (lt_of_heap hz1) (by simp)).trans hz1)
        have i0 : ¬ (j : Int) < 0 := by omega
        have i1 : (j : Int) < (rs.length : Int) := by omega
        have i2 : (0 : Int) ≤ (j : Int) := by omega
        clear hfr hsx q1 hB2 hz1 hx1 hB HF HB HX HZ x0 x1 ho HO2 hcs
        generalize rs.length = N at *
        go_wp2_with fail
        go_roundw
        case rel => exact ⟨x.n, x.top, (unhide Hg).2.2, by rw [unhide Hj]; exact unhide Hq, unhide Hz, unhide HE2⟩
        case measure =>
          have e1 : cInt X2 h = x.n := by rw [cInt, cell_of (unhide Hq), unhide Hj]; rfl
          rw [e1, unhide Hc]
          have := unhide Hg
          omega
end
end Go.Proofs.Ythmpplcaomgdoaa.Mt
