/-
  The document's over, Covered, Root.
-/
import Derived.Test.YthmpplcaomgdoaaMRefA
namespace Go.Proofs.Ythmpplcaomgdoaa.Mt
open Go.RowKit
attribute [local go_sem ↓] Go.wp_at_zero Go.wp_at_succ

/-- The number of one that is so, from 1 on; -1: none is. -/
def Ov (rs : List Rm) (P : Rm → Bool) (r : Int) : Prop :=
  (r = -1 ∧ ∀ i p, 1 ≤ i → rs[i]? = some p → P p = false) ∨ ∃ (k : Nat) (p : Rm), r = (k : Int) ∧ 1 ≤ k ∧ rs[k]? = some p ∧ P p = true
def lvAt (m n : Int) : Rm → Bool := fun p => p.lv && decide (p.am = m ∧ p.an = n)
def lvNd (n : Int) : Rm → Bool := fun p => p.lv && decide (p.an = n)
set_option maxRecDepth 100000 in
set_option maxHeartbeats 1000000 in
theorem over_any (base b : Nat) (rs : List Rm) (m n : Int) (w : World) (h : Rs base w b rs) (hl : rs.length ≤ 1000) :
    Calls Try.prog 38 #[.pointer (some ⟨b, 0, none⟩), pv m n] w fun e w' => (∃ r, Ov rs (lvAt m n) r ∧ e = .returned (I r)) ∧ Below w.heap.size w w' := by
  have hlen := h.len
  obtain ⟨V, hV, hs, hx, hb⟩ : ∃ V, w.alloc (.cells #[I m, I n] 29) = V ∧ V.heap.size = w.heap.size + 1 ∧ V.heap[w.heap.size]? = some (.cells #[I m, I n] 29) ∧ Below w.heap.size w V := ⟨_, rfl, by simp, putAll _ _ rfl, below_alloc _ _⟩
  have HR := hide (h.below hb)
  have HX := hide hx
  have HB := hide hb
  obtain ⟨N, hN⟩ : ∃ N, N = rs.length := ⟨_, rfl⟩
  have HN := hide hN
  rw [← hN] at hl hlen
  clear h hb hx hN
  unfold pv
  go_enter Try.func38, Try.ntmps38
  go_wp2_with fail
  go_loopw [5] (fun v wr => ∃ k : Nat, v = I k ∧ 1 ≤ k ∧ k ≤ N ∧ (∀ i p, 1 ≤ i → i < k → rs[i]? = some p → lvAt m n p = false) ∧ Below V.heap.size V wr) (fun v _ => N - (intOf v).toNat)
  case atStart => exact ⟨1, rfl, Nat.le_refl _, by omega, fun i p h1 h2 => by omega, Below.refl _ _⟩
  case round =>
    obtain ⟨k, rfl, hk1, hk, hno, hbr⟩ := hrel
    have hR := (unhide HR).below hbr
    obtain ⟨g, cap, c0, _, _, _, hc⟩ := hR.cells
    rw [← unhide HN] at c0
    obtain ⟨p0, p1⟩ := cells2 ((hbr.block w.heap.size (by omega)).trans (unhide HX))
    have HBR := hide hbr
    by_cases hkn : k < N
    · obtain ⟨p, hp⟩ : ∃ p, rs[k]? = some p := ⟨_, List.getElem?_eq_getElem (by have := unhide HN; omega)⟩
      obtain ⟨d0, d1, d2, d3⟩ := hc k p hp
      have j1 : (k : Int) < (N : Int) := by omega
      have j0 : (0 : Int) ≤ (k : Int) := by omega
      have HP := hide hp
      have HNO := hide hno
      clear hR hc hp hno hbr
      obtain ⟨am, an, nd, lv⟩ := p
      simp only [] at d0 d1 d2 d3
      by_cases hP : lv = true ∧ am = m ∧ an = n
      · obtain ⟨rfl, rfl, rfl⟩ := hP
        go_wp2_with fail
        go_quiet (fail)
        go_wp2_with fail
        go_ret
        exact ⟨⟨_, .inr ⟨k, _, rfl, hk1, unhide HP, by simp [lvAt]⟩, rfl⟩, (unhide HB).trans ((below_dn (unhide HBR) _).mono (by omega))⟩
      · have HPf : Hid (lvAt m n ⟨am, an, nd, lv⟩ = false) := by
          cases lv <;> simp_all [Hid, lvAt]
        have HREL : Hid (∀ i p, 1 ≤ i → i < k + 1 → rs[i]? = some p → lvAt m n p = false) := by
          intro i q h1 h2 h3
          by_cases e : i = k
          · subst e
            rw [unhide HP] at h3
            cases h3
            exact unhide HPf
          · exact unhide HNO i q h1 (by omega) h3
        clear HPf HNO HP
        cases lv with
        | false =>
          clear hP
          go_wp2_with fail
          go_quiet (fail)
          go_wp2_with fail
          go_roundw
          case rel => exact ⟨k + 1, by go_num, by omega, by omega, unhide HREL, below_dn (unhide HBR) _⟩
          case measure => simp [intOf]; omega
        | true =>
          by_cases e1 : am = m
          · have e2 : ¬ an = n := fun e => hP ⟨rfl, e1, e⟩
            subst e1
            clear hP
            go_wp2_with fail
            go_quiet (fail)
            go_wp2_with fail
            go_roundw
            case rel => exact ⟨k + 1, by go_num, by omega, by omega, unhide HREL, below_dn (unhide HBR) _⟩
            case measure => simp [intOf]; omega
          · clear hP
            go_wp2_with fail
            go_quiet (fail)
            go_wp2_with fail
            go_roundw
            case rel => exact ⟨k + 1, by go_num, by omega, by omega, unhide HREL, below_dn (unhide HBR) _⟩
            case measure => simp [intOf]; omega
    · obtain rfl : k = N := by omega
      have HNO := hide hno
      clear hR hc hno hbr
      go_wp2_with fail
      go_ret
      refine ⟨⟨_, .inl ⟨rfl, fun i p h1 h2 => unhide HNO i p h1 ?_ h2⟩, rfl⟩, (unhide HB).trans ((unhide HBR).mono (by omega))⟩
      have := (List.getElem?_eq_some_iff.1 h2).1
      have := unhide HN
      omega
end Go.Proofs.Ythmpplcaomgdoaa.Mt
