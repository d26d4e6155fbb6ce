/-
  The contract of Down: the top of the last of those that lie over one another.
-/
import Derived.Test.YthmpplcaomgdoaaMLook
namespace Go.Proofs.Ythmpplcaomgdoaa.Mt
open Go.RowKit
attribute [local go_sem ↓] Go.wp_at_zero Go.wp_at_succ

/-- A mount lies at a place of an elder one. -/
def Eld (md : Int) (es : Ents) : Prop := ∀ p ∈ es, p.am < p.n ∧ p.n ≤ md
theorem fst_mem {es : Ents} {P : Ld → Bool} (h : any es P = true) : fst es P ∈ es ∧ P (fst es P) = true := by
  unfold any at h
  obtain ⟨p, hp⟩ := Option.isSome_iff_exists.1 h
  rw [fst, hp]
  exact ⟨List.mem_of_find?_eq_some hp, List.find?_some hp⟩
/-- Down, at most so many steps. -/
def dn (es : Ents) : Nat → Int → Int → Int × Int
  | 0, m, n => (m, n)
  | k + 1, m, n => if any es (isAt m n) then dn es k (fst es (isAt m n)).n (fst es (isAt m n)).top else (m, n)
/-- How many steps are enough. -/
def fuel (md m : Int) : Nat := (md + 1 - m).toNat
def down (md : Int) (es : Ents) (m n : Int) : Int × Int := dn es (fuel md m) m n
theorem Eld.next {md : Int} {es : Ents} (h : Eld md es) {m n : Int} (ha : any es (isAt m n) = true) : m < (fst es (isAt m n)).n ∧ (fst es (isAt m n)).n ≤ md := by
  obtain ⟨h1, h2⟩ := fst_mem ha
  have h3 := h _ h1
  simp only [isAt, decide_eq_true_eq] at h2
  rw [h2.1] at h3
  exact h3
theorem dn_stop {es : Ents} (k : Nat) {m n : Int} (ha : any es (isAt m n) = false) : dn es k m n = (m, n) := by
  cases k with
  | zero => rfl
  | succ j => rw [dn, ha]; rfl
theorem dn_same {md : Int} {es : Ents} (h : Eld md es) : ∀ (k k' : Nat) (m n : Int), fuel md m ≤ k → fuel md m ≤ k' → dn es k m n = dn es k' m n := by
  intro k
  induction k with
  | zero =>
    intro k' m n hk _
    cases ha : any es (isAt m n) with
    | false => rw [dn_stop _ ha, dn_stop _ ha]
    | true =>
      obtain ⟨h1, h2⟩ := h.next ha
      simp only [fuel] at hk
      omega
  | succ k ih =>
    intro k' m n hk hk'
    cases ha : any es (isAt m n) with
    | false => rw [dn_stop _ ha, dn_stop _ ha]
    | true =>
      obtain ⟨h1, h2⟩ := h.next ha
      cases k' with
      | zero => simp only [fuel] at hk'; omega
      | succ j =>
        rw [dn, dn, ha]
        simp only [if_true]
        exact ih _ _ _ (by simp only [fuel] at *; omega) (by simp only [fuel] at *; omega)
theorem dn_fuel {md : Int} {es : Ents} (h : Eld md es) (k : Nat) (m n : Int) (hk : fuel md m ≤ k) : dn es k m n = down md es m n := dn_same h _ _ _ _ hk (Nat.le_refl _)
theorem down_step {md : Int} {es : Ents} (h : Eld md es) {m n : Int} (ha : any es (isAt m n) = true) : down md es m n = down md es (fst es (isAt m n)).n (fst es (isAt m n)).top := by
  obtain ⟨h1, h2⟩ := h.next ha
  have e : fuel md m = (fuel md m - 1) + 1 := by simp only [fuel] at *; omega
  rw [down, e, dn, ha]
  simp only [if_true]
  exact dn_fuel h _ _ _ (by simp only [fuel] at *; omega)
theorem down_stop {md : Int} {es : Ents} {m n : Int} (ha : any es (isAt m n) = false) : down md es m n = (m, n) := by
  rw [down]
  cases fuel md m with
  | zero => rfl
  | succ j => rw [dn, ha]; rfl
def cInt (W : World) (h : Nat) : Int := match W.cell? ⟨h, 0, none⟩ with | some (.int _ x) => x | _ => 0
set_option maxRecDepth 100000 in
set_option maxHeartbeats 1000000 in
theorem down_any (base b : Nat) (rt md m n : Int) (es : Ents) (w : World) (hG : Ls base w b rt md es) (hes : es.length ≤ 1000) (hE : Eld md es) :
    Calls Try.prog 11 #[.pointer (some ⟨b, 0, none⟩), pv m n] w fun e w' => e = .returned (pv (down md es m n).1 (down md es m n).2) ∧ Below w.heap.size w w' := by
  have HE := hide hE
  have hbl := hG.lt
  have HL := hide (fun m n W (hB : Below w.heap.size w W) => lyingAt_any base b rt md m n es W (hG.below hB) hes)
  obtain ⟨r, hr⟩ : ∃ r, r = down md es m n := ⟨_, rfl⟩
  rw [← hr]
  have Hr := hide hr
  obtain ⟨V, hV, hs, hx, hz, hb⟩ := two0 w (.cells #[I m, I n] 29) (.cells #[I 0, I 0] 29)
  have HB := hide hb
  have HX := hide hx
  have HZ := hide hz
  clear hG hE hr hb hx hz
  unfold pv
  go_enter Try.func11, Try.ntmps11
  go_wp2_with fail
  generalize hh : w.heap.size = h at *
  go_loopw [6] (fun _ wr => ∃ m n : Int, r = down md es m n ∧ wr.heap[h]? = some (.cells #[I m, I n] 29) ∧ wr.heap[h + 1]? = some (.cells #[I 0, I 0] 29) ∧ Below h w wr) (fun _ wr => (md + 1 - cInt wr h).toNat)
  case atStart => exact ⟨m, n, unhide Hr, unhide HX, unhide HZ, unhide HB⟩
  case round =>
    clear hV hs HB HX HZ Hr
    obtain ⟨m, n, hr, hx, hz, hb⟩ := hrel
    have HF := hide (unhide HL m n wr hb)
    obtain ⟨x0, x1⟩ := cells2 hx
    have HX := hide hx
    have HZ := hide hz
    have HB := hide hb
    have Hr := hide hr
    clear hx hz hb hr
    have hcm : cInt wr h = m := by rw [cInt, x0]
    have Hc := hide hcm
    clear hcm
    obtain ⟨x, hx⟩ : ∃ x, x = fst es (isAt m n) := ⟨_, rfl⟩
    rw [← hx] at HF
    have HP : Hid (any es (isAt m n) = true → m < x.n ∧ x.n ≤ md ∧ r = down md es x.n x.top) := by
      intro ha
      obtain ⟨h1, h2⟩ := (unhide HE).next ha
      rw [hx]
      exact ⟨h1, h2, (unhide Hr).trans (down_step (unhide HE) ha)⟩
    clear hx
    cases ha : any es (isAt m n) with
    | false =>
      rw [ha] at HF
      have He : Hid (r = (m, n)) := hide ((unhide Hr).trans (down_stop ha))
      clear ha HP Hr HL HE
      go_wp2_with fail
      refine (unhide HF).mono ?_
      rintro e w1 ⟨rfl, hB⟩
      have hz1 := (Below.heap_alloc w1 (.cells #[I x.n, I x.top, I x.am, I x.an] 59) _ (by have := hB.size; have := lt_of_heap (unhide HZ); omega)).trans ((hB.block _ (lt_of_heap (unhide HZ))).trans (unhide HZ))
      have hx1 := (Below.heap_alloc w1 (.cells #[I x.n, I x.top, I x.am, I x.an] 59) _ (by have := hB.size; have := lt_of_heap (unhide HX); omega)).trans ((hB.block _ (lt_of_heap (unhide HX))).trans (unhide HX))
      have hB2 : Below h w (w1.alloc (.cells #[I x.n, I x.top, I x.am, I x.an] 59)) := ((unhide HB).trans (hB.mono (by have := lt_of_heap (unhide HX); omega))).alloc (by have := hB.size; have := lt_of_heap (unhide HX); omega) _
      obtain ⟨W2, hW2⟩ : ∃ W2, w1.alloc (.cells #[I x.n, I x.top, I x.am, I x.an] 59) = W2 := ⟨_, rfl⟩
      rw [hW2] at hz1 hx1 hB2
      obtain ⟨p0, p1⟩ := cells2 hx1
      obtain ⟨X1, X2, ⟨x1', x2'⟩, ⟨c0, c1⟩, ⟨f0, f1⟩, q1, hfr, hsx⟩ := store2 hz1 (I m) (I n)
      obtain ⟨z0, z1⟩ := cells2 q1
      have HE := hide (hB2.trans (hfr.base (B := h) (by have := lt_of_heap hx1; omega) (by simp)))
      clear hfr hsx q1 hB2 hz1 hx1 hB HF HB HX HZ x0 x1
      unfold lv
      go_wp2_with fail
      refine bodyPost_ret (v := .agg #[I m, I n]) (by simp [results, Try.results11, go_sem, z0, z1]) rfl ?_
      rw [unhide He, hh]
      exact ⟨rfl, unhide HE⟩
    | true =>
      rw [ha] at HF
      obtain ⟨g1, g2, g3⟩ := unhide HP ha
      have Hg := hide (⟨g1, g2, g3⟩ : m < x.n ∧ x.n ≤ md ∧ r = down md es x.n x.top)
      clear ha HP Hr HL HE g1 g2 g3
      go_wp2_with fail
      refine (unhide HF).mono ?_
      rintro e w1 ⟨rfl, hB⟩
      have hz1 := (Below.heap_alloc w1 (.cells #[I x.n, I x.top, I x.am, I x.an] 59) _ (by have := hB.size; have := lt_of_heap (unhide HZ); omega)).trans ((hB.block _ (lt_of_heap (unhide HZ))).trans (unhide HZ))
      have hx1 := (Below.heap_alloc w1 (.cells #[I x.n, I x.top, I x.am, I x.an] 59) _ (by have := hB.size; have := lt_of_heap (unhide HX); omega)).trans ((hB.block _ (lt_of_heap (unhide HX))).trans (unhide HX))
      have hm1 : (w1.alloc (.cells #[I x.n, I x.top, I x.am, I x.an] 59)).heap[w1.heap.size]? = some (.cells #[I x.n, I x.top, I x.am, I x.an] 59) := putAll _ _ rfl
      have hB2 : Below h w (w1.alloc (.cells #[I x.n, I x.top, I x.am, I x.an] 59)) := ((unhide HB).trans (hB.mono (by have := lt_of_heap (unhide HX); omega))).alloc (by have := hB.size; have := lt_of_heap (unhide HX); omega) _
      obtain ⟨W2, hW2⟩ : ∃ W2, w1.alloc (.cells #[I x.n, I x.top, I x.am, I x.an] 59) = W2 := ⟨_, rfl⟩
      rw [hW2] at hz1 hx1 hm1 hB2
      obtain ⟨p0, p1⟩ := cells2 hx1
      obtain ⟨l0, l1, l2, l3⟩ := cells4 hm1
      obtain ⟨X1, X2, ⟨x1', x2'⟩, ⟨c0, c1⟩, ⟨f0, f1⟩, q1, hfr, hsx⟩ := store2 hx1 (I x.n) (I x.top)
      have HE := hide (hB2.trans (hfr.base (B := h) (by have := lt_of_heap hx1; omega) (by simp)))
      have Hq := hide q1
      have Hz := hide ((hfr.blk (h + 1) (lt_of_heap hz1) (by simp)).trans hz1)
      clear hfr hsx q1 hB2 hz1 hx1 hm1 hB HF HB HX HZ x0 x1
      unfold lv
      go_wp2_with fail
      go_roundw
      case rel => exact ⟨x.n, x.top, (unhide Hg).2.2, unhide Hq, unhide Hz, unhide HE⟩
      case measure =>
        have e1 : cInt X2 h = x.n := by rw [cInt, cell_of (unhide Hq)]; rfl
        rw [e1, unhide Hc]
        have := unhide Hg
        omega
end Go.Proofs.Ythmpplcaomgdoaa.Mt
