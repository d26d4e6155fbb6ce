/-
  The contracts of slices.IndexFunc and slices.DeleteFunc over the mounts.
-/
import Derived.Test.YthmpplcaomgdoaaMBind
namespace Go.Proofs.Ythmpplcaomgdoaa.Mt
open Go.RowKit
attribute [local go_sem ↓] Go.wp_at_zero Go.wp_at_succ

set_option maxRecDepth 100000 in
set_option maxHeartbeats 1000000 in
theorem idx_any (base g n cap : Nat) (es : Ents) (F x : Nat) (P : Ld → Bool) (w : World) (hn : es.length = n) (hown : w.ownsRow base 59 4 (.slice (some ⟨g, 0, none⟩) n cap) n (rowsOf row es)) (hl : n ≤ 1000) (i : Nat) (hi : es.findIdx P = i) (hin : i < n)
    (hE : ∀ args w, (callFunc F args).run Try.prog w = .ok (.enter F args) w)
    (hF : ∀ p W, Below w.heap.size w W → Calls Try.prog F #[lv p, .pointer (some ⟨x, 0, none⟩)] W fun e W' => e = .returned (.bool (P p)) ∧ Below W.heap.size W W') :
    Calls Try.prog 40 #[.slice (some ⟨g, 0, none⟩) n cap, .func (.func F) #[] #[.pointer (some ⟨x, 0, none⟩)]] w fun e w' => e = .returned (I (i : Int)) ∧ Below w.heap.size w w' := by
  have HF := hide hF
  have HO := hide hown
  have HI := hide hi
  have Hn := hide hn
  clear hF hown hi hn
  go_enter Try.func40, Try.ntmps40
  go_wp2_with fail
  go_loopw [8] (fun v wr => ∃ k : Nat, v = I k ∧ k ≤ i ∧ Below w.heap.size w wr) (fun v _ => n - (intOf v).toNat)
  case atStart => exact ⟨0, rfl, Nat.zero_le _, Below.refl _ _⟩
  case round =>
    obtain ⟨k, rfl, hk, hb⟩ := hrel
    have hkn : k < es.length := by have := unhide Hn; omega
    obtain ⟨p, hp⟩ : ∃ p, es[k]? = some p := ⟨_, List.getElem?_eq_getElem hkn⟩
    obtain ⟨g', eg, c0, c1, c2, c3, _, hgl⟩ := own_at (unhide HO) hp (unhide Hn)
    simp only [Option.some.injEq, Addr.mk.injEq, and_true] at eg
    subst eg
    have hg := hb.block g hgl
    have d0 := (World.cell?_of_block (a := ⟨g, k * 4, none⟩) hg).trans c0
    have d1 := (World.cell?_of_block (a := ⟨g, k * 4 + 1, none⟩) hg).trans c1
    have d2 := (World.cell?_of_block (a := ⟨g, k * 4 + 2, none⟩) hg).trans c2
    have d3 := (World.cell?_of_block (a := ⟨g, k * 4 + 3, none⟩) hg).trans c3
    have j1 : (k : Int) < (n : Int) := by omega
    have j0 : (0 : Int) ≤ (k : Int) := by omega
    have HC := hide (unhide HF p wr hb)
    have hPk : Hid (P p = decide (k = i)) := by
      have hi := unhide HI
      have he := (List.getElem?_eq_some_iff.1 hp).2
      by_cases e : k = i
      · subst e
        rw [decide_eq_true rfl, ← he]
        subst hi
        exact List.findIdx_getElem (w := hkn)
      · rw [decide_eq_false e, ← he]
        exact List.not_of_lt_findIdx (xs := es) (p := P) (i := k) (by omega)
    have HB := hide hb
    clear c0 c1 c2 c3 hg hb hp hkn HF HO HI Hn hgl
    by_cases e : k = i
    · subst e
      rw [show P p = true by rw [unhide hPk]; simp] at HC
      clear hPk
      go_wp2_with fail
      refine (unhide HC).mono ?_
      rintro e w1 ⟨rfl, hB⟩
      have HE := hide ((unhide HB).trans (hB.mono (unhide HB).size))
      clear hB HC HB d0 d1 d2 d3
      go_wp2_with fail
      go_ret
      exact ⟨rfl, unhide HE⟩
    · rw [show P p = false by rw [unhide hPk]; simp [e]] at HC
      clear hPk
      go_wp2_with fail
      refine (unhide HC).mono ?_
      rintro e w1 ⟨rfl, hB⟩
      have HE := hide ((unhide HB).trans (hB.mono (unhide HB).size))
      clear hB HC HB d0 d1 d2 d3
      go_wp2_with fail
      go_roundw
      case rel => exact ⟨k + 1, by go_num, by omega, unhide HE⟩
      case measure => simp [intOf]; omega
/-- One of the mounts of a row is written over. -/
theorem own_set4 {base g n cap : Nat} {es : Ents} {W : World} {i : Nat} {p q : Ld} (own : W.ownsRow base 59 4 (.slice (some ⟨g, 0, none⟩) n cap) n (rowsOf row es)) (hn : es.length = n) (hi : es[i]? = some q) :
    ∃ X1 X2 X3 X4 : World, (W.setCell ⟨g, i * 4, none⟩ (I p.n) = X1 ∧ X1.setCell ⟨g, i * 4 + 1, none⟩ (I p.top) = X2 ∧ X2.setCell ⟨g, i * 4 + 2, none⟩ (I p.am) = X3 ∧ X3.setCell ⟨g, i * 4 + 3, none⟩ (I p.an) = X4) ∧
      (W.cell? ⟨g, i * 4, none⟩ = some (I q.n) ∧ X1.cell? ⟨g, i * 4 + 1, none⟩ = some (I q.top) ∧ X2.cell? ⟨g, i * 4 + 2, none⟩ = some (I q.am) ∧ X3.cell? ⟨g, i * 4 + 3, none⟩ = some (I q.an)) ∧
      (W.frozen? ⟨g, i * 4, none⟩ = false ∧ X1.frozen? ⟨g, i * 4 + 1, none⟩ = false ∧ X2.frozen? ⟨g, i * 4 + 2, none⟩ = false ∧ X3.frozen? ⟨g, i * 4 + 3, none⟩ = false) ∧
      X4.ownsRow base 59 4 (.slice (some ⟨g, 0, none⟩) n cap) n (rowsOf row (es.set i p)) ∧ Fr [g] W X4 ∧ X4.heap.size = W.heap.size := by
  obtain ⟨hl0, ⟨e0, _⟩ | ⟨g', cap', cur, e0, hgb, hgg, hcap, hcm, hcs, htk⟩⟩ := own
  · simp at e0
  simp only [Value.slice.injEq, Option.some.injEq, Addr.mk.injEq] at e0
  obtain ⟨⟨rfl, -, -⟩, -, rfl⟩ := e0
  have hin : i < n := by have := (List.getElem?_eq_some_iff.1 hi).1; omega
  obtain ⟨r0, r1, r2, r3⟩ := rows_at es i q hi
  have hcur : ∀ (j : Nat) (u : Value), (rowsOf row es)[j]? = some u → cur[j]? = some u := by
    intro j u hj
    have hj2 := (List.getElem?_eq_some_iff.1 hj).1
    rw [← htk] at hj
    rw [List.getElem?_take_of_lt (by omega)] at hj
    simpa using hj
  have h1 := heap_set hgg (i * 4) (I p.n)
  have h2 := heap_set h1 (i * 4 + 1) (I p.top)
  have h3 := heap_set h2 (i * 4 + 2) (I p.am)
  have h4 := heap_set h3 (i * 4 + 3) (I p.an)
  refine ⟨_, _, _, _, ⟨rfl, rfl, rfl, rfl⟩, ⟨?_, ?_, ?_, ?_⟩, ⟨frozen_of hgg _, frozen_of h1 _, frozen_of h2 _, frozen_of h3 _⟩, ⟨?_, .inr ⟨g, cap, _, rfl, hgb, h4, hcap, hcm, ?_, ?_⟩⟩, ?_, ?_⟩
  · rw [cell_of hgg]; exact hcur _ _ r0
  · rw [cell_of h1, Array.getElem?_setIfInBounds_ne (by omega)]; exact hcur _ _ r1
  · rw [cell_of h2, Array.getElem?_setIfInBounds_ne (by omega), Array.getElem?_setIfInBounds_ne (by omega)]; exact hcur _ _ r2
  · rw [cell_of h3, Array.getElem?_setIfInBounds_ne (by omega), Array.getElem?_setIfInBounds_ne (by omega), Array.getElem?_setIfInBounds_ne (by omega)]; exact hcur _ _ r3
  · rw [rows_len]; simp; omega
  · simpa using hcs
  · have hf : ∀ f, f < 4 → i * 4 + f = 4 * i + f := by intro f _; omega
    have s0 := rowsOf_set row 4 row_length es i 0 q ⟨p.n, q.top, q.am, q.an⟩ (I p.n) hi (by omega) rfl
    have s1 := rowsOf_set row 4 row_length (es.set i ⟨p.n, q.top, q.am, q.an⟩) i 1 ⟨p.n, q.top, q.am, q.an⟩ ⟨p.n, p.top, q.am, q.an⟩ (I p.top) (get_set hi _) (by omega) rfl
    have s2 := rowsOf_set row 4 row_length (es.set i ⟨p.n, p.top, q.am, q.an⟩) i 2 ⟨p.n, p.top, q.am, q.an⟩ ⟨p.n, p.top, p.am, q.an⟩ (I p.am) (get_set hi _) (by omega) rfl
    have s3 := rowsOf_set row 4 row_length (es.set i ⟨p.n, p.top, p.am, q.an⟩) i 3 ⟨p.n, p.top, p.am, q.an⟩ p (I p.an) (get_set hi _) (by omega) rfl
    simp only [List.set_set] at s1 s2 s3
    simp only [Array.toList_setIfInBounds, List.take_set, htk]
    rw [show i * 4 = 4 * i + 0 by omega, show 4 * i + 0 + 1 = 4 * i + 1 by omega, show 4 * i + 0 + 2 = 4 * i + 2 by omega, show 4 * i + 0 + 3 = 4 * i + 3 by omega, s0, s1, s2, s3]
  · exact ((((Fr.refl [g] W).set (a := ⟨g, i * 4, none⟩) (by simp) _).set (a := ⟨g, i * 4 + 1, none⟩) (by simp) _).set (a := ⟨g, i * 4 + 2, none⟩) (by simp) _).set (a := ⟨g, i * 4 + 3, none⟩) (by simp) _
  · simp [World.setCell]
end Go.Proofs.Ythmpplcaomgdoaa.Mt
