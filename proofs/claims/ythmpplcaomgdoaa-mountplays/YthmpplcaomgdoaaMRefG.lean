/-
  The document's Up.
-/
import Derived.Test.YthmpplcaomgdoaaMRefF
import Derived.Test.YthmpplcaomgdoaaMUpsA
import Derived.Deep.CutRange
namespace Go.Proofs.Ythmpplcaomgdoaa.Mt
open Go.RowKit
attribute [local go_sem ↓] Go.wp_at_zero Go.wp_at_succ
section
variable {B : Int} {t : T} {rs : List Rm} {base b : Nat} {w : World}
set_option maxRecDepth 100000 in
set_option maxHeartbeats 1000000 in
theorem rup_any (h : RT t rs) (hw : Wf B t) (hR : Rs base w b rs) (m n : Int) :
    Calls Try.prog 21 #[.pointer (some ⟨b, 0, none⟩), pv m n] w fun e w' => e = .returned (.tuple #[pv (upM t.es m n) (upN t.es m n), .bool (upIs t.es m n)]) ∧ Below w.heap.size w w' := by
  obtain ⟨V, hV, hs, hx, hz, hb⟩ := two0 w (.cells #[I m, I n] 29) (.cells #[I 0, I 0] 29)
  have HI := hide (fun k => ris_any base b rs m (V.drewN k) (hR.below (below_dn hb k)))
  rw [h.is hw] at HI
  obtain ⟨v0, v1⟩ := cells2 hx
  have HC := hide (fun W (hB : Below w.heap.size w W) => (hR.below hB).cells)
  have HB := hide hb
  have HZ := hide hz
  have HX := hide hx
  have hbl := hR.lt
  -- the answer 'the place itself'
  have NO : upIs t.es m n = false → upM t.es m n = m ∧ upN t.es m n = n := fun hu => ⟨by rw [upM, hu]; rfl, by rw [upN, hu]; rfl⟩
  by_cases m0 : m = 0
  · subst m0
    obtain ⟨u1, u2, u3⟩ := up_zero hw n
    rw [u1, u2, u3]
    clear NO u1 u2 u3 HI h hw hR hb hz hx
    unfold pv
    go_enter Try.func21, Try.ntmps21
    go_wp2_with fail
    go_quiet (fail)
    have HB3 := hide (below_dn (unhide HB) nq)
    have hz3 : (V.drewN nq).heap[w.heap.size + 1]? = _ := unhide HZ
    have hx3 : (V.drewN nq).heap[w.heap.size]? = _ := unhide HX
    generalize V.drewN nq = W3 at *
    obtain ⟨p0, p1⟩ := cells2 hx3
    obtain ⟨X1, X2, ⟨x1, x2⟩, ⟨c0, c1⟩, ⟨f0, f1⟩, q1, hfr, hsx⟩ := store2 hz3 (I 0) (I n)
    obtain ⟨z0, z1⟩ := cells2 q1
    have HE := hide ((unhide HB3).trans (hfr.base (B := w.heap.size) (unhide HB3).size (by simp)))
    clear hfr hsx q1 hx3 hz3
    go_wp2_with fail
    refine bodyPost_ret (v := .tuple #[.agg #[I 0, I n], .bool false]) (by simp [results, Try.results21, go_sem, z0, z1]) rfl ?_
    exact ⟨rfl, unhide HE⟩
  · have e1 : rootIs t.es m = any t.es (isN m) := by rw [rootIs, if_neg m0]
    rw [e1] at HI
    have q0 : (m == 0) = false := by simp [m0]
    cases ha : any t.es (isN m) with
    | false =>
      rw [ha] at HI
      have hu : upIs t.es m n = false := by rw [upIs, ha]; rfl
      obtain ⟨u1, u2⟩ := NO hu
      rw [u1, u2, hu]
      clear NO u1 u2 hu h hw hR hb hz hx ha e1
      unfold pv
      go_enter Try.func21, Try.ntmps21
      go_wp2_with fail
      go_quiet ((go_at_call 37; exact Calls.quiet_of_same (unhide HI _)))
      have HB3 := hide (below_dn (unhide HB) nq)
      have hz3 : (V.drewN nq).heap[w.heap.size + 1]? = _ := unhide HZ
      have hx3 : (V.drewN nq).heap[w.heap.size]? = _ := unhide HX
      generalize V.drewN nq = W3 at *
      obtain ⟨p0, p1⟩ := cells2 hx3
      obtain ⟨X1, X2, ⟨x1, x2⟩, ⟨c0, c1⟩, ⟨f0, f1⟩, q1, hfr, hsx⟩ := store2 hz3 (I m) (I n)
      obtain ⟨z0, z1⟩ := cells2 q1
      have HE := hide ((unhide HB3).trans (hfr.base (B := w.heap.size) (unhide HB3).size (by simp)))
      clear hfr hsx q1 hx3 hz3
      go_wp2_with fail
      refine bodyPost_ret (v := .tuple #[.agg #[I m, I n], .bool false]) (by simp [results, Try.results21, go_sem, z0, z1]) rfl ?_
      exact ⟨rfl, unhide HE⟩
    | true =>
      rw [ha] at HI
      obtain ⟨f1, f2⟩ := fst_mem ha
      simp only [isN, decide_eq_true_eq] at f2
      have hlv := h.live _ f1
      have hn := hw.num _ f1
      obtain ⟨x, hxx⟩ : ∃ x, x = fst t.es (isN m) := ⟨_, rfl⟩
      rw [← hxx] at f1 f2 hlv hn
      obtain ⟨j, hj⟩ : ∃ j : Nat, m = (j : Int) := ⟨m.toNat, by omega⟩
      rw [f2, hj, Int.toNat_natCast] at hlv
      have hjl := (List.getElem?_eq_some_iff.1 hlv).1
      obtain ⟨g, cap, k0, _, _, _, hcs⟩ := unhide HC V hb
      obtain ⟨k1, k2, k3, _⟩ := hcs j _ hlv
      simp only [] at k1 k2 k3
      have j1 : (j : Int) < (rs.length : Int) := by omega
      have j0 : (0 : Int) ≤ (j : Int) := by omega
      by_cases ht : x.top = n
      · have hu : upIs t.es m n = true := by rw [upIs, ha, ← hxx]; simp [ht]
        have u1 : upM t.es m n = x.am := by rw [upM, hu, ← hxx]; rfl
        have u2 : upN t.es m n = x.an := by rw [upN, hu, ← hxx]; rfl
        rw [u1, u2, hu]
        subst hj
        subst ht
        clear NO u1 u2 hu h hw hR hb hz hx ha e1 hxx f1 f2 hlv hcs HC
        generalize rs.length = N at *
        unfold pv
        go_enter Try.func21, Try.ntmps21
        go_wp2_with fail
        go_quiet ((go_at_call 37; exact Calls.quiet_of_same (unhide HI _)))
        have HB3 := hide (below_dn (unhide HB) nq)
        have hz3 : (V.drewN nq).heap[w.heap.size + 1]? = _ := unhide HZ
        have hx3 : (V.drewN nq).heap[w.heap.size]? = _ := unhide HX
        have k0' : (V.drewN nq).cell? ⟨b, 0, none⟩ = _ := k0
        have k1' : (V.drewN nq).cell? ⟨g, j * 4, none⟩ = _ := k1
        have k2' : (V.drewN nq).cell? ⟨g, j * 4 + 1, none⟩ = _ := k2
        generalize V.drewN nq = W3 at *
        obtain ⟨p0, p1⟩ := cells2 hx3
        go_upto_region 3 with fail
        obtain ⟨X1, X2, ⟨x1, x2⟩, ⟨c0, c1⟩, ⟨f0, f1⟩, q1, hfr, hsx⟩ := store2 (W := W3.drew) hz3 (I x.am) (I x.an)
        obtain ⟨z0, z1⟩ := cells2 q1
        have HE := hide ((below_drew (unhide HB3)).trans (hfr.base (B := w.heap.size) (unhide HB3).size (by simp)))
        clear hfr hsx q1 hx3 hz3
        go_region
        all_goals
          go_wp2_with fail
          refine bodyPost_ret (v := .tuple #[.agg #[I x.am, I x.an], .bool true]) (by simp [results, Try.results21, go_sem, z0, z1]) rfl ?_
          exact ⟨rfl, unhide HE⟩
      · have hu : upIs t.es m n = false := by rw [upIs, ha, ← hxx]; simp [ht]
        obtain ⟨u1, u2⟩ := NO hu
        rw [u1, u2, hu]
        subst hj
        clear NO u1 u2 hu h hw hR hb hz hx ha e1 hxx f1 f2 hlv hcs HC
        generalize rs.length = N at *
        unfold pv
        go_enter Try.func21, Try.ntmps21
        go_wp2_with fail
        go_quiet ((go_at_call 37; exact Calls.quiet_of_same (unhide HI _)))
        have HB3 := hide (below_dn (unhide HB) nq)
        have hz3 : (V.drewN nq).heap[w.heap.size + 1]? = _ := unhide HZ
        have hx3 : (V.drewN nq).heap[w.heap.size]? = _ := unhide HX
        generalize V.drewN nq = W3 at *
        obtain ⟨p0, p1⟩ := cells2 hx3
        obtain ⟨X1, X2, ⟨x1, x2⟩, ⟨c0, c1⟩, ⟨f0, f1⟩, q1, hfr, hsx⟩ := store2 hz3 (I (j : Int)) (I n)
        obtain ⟨z0, z1⟩ := cells2 q1
        have HE := hide ((unhide HB3).trans (hfr.base (B := w.heap.size) (unhide HB3).size (by simp)))
        clear hfr hsx q1 hx3 hz3
        go_wp2_with fail
        refine bodyPost_ret (v := .tuple #[.agg #[I (j : Int), I n], .bool false]) (by simp [results, Try.results21, go_sem, z0, z1]) rfl ?_
        exact ⟨rfl, unhide HE⟩
end
end Go.Proofs.Ythmpplcaomgdoaa.Mt
