/-
  The document's Root, Covered, List, Above.
-/
import Derived.Test.YthmpplcaomgdoaaMRefB
namespace Go.Proofs.Ythmpplcaomgdoaa.Mt
open Go.RowKit
attribute [local go_sem ↓] Go.wp_at_zero Go.wp_at_succ

def rNd (rs : List Rm) (m : Int) : Int := match rs[m.toNat]? with | some p => p.nd | none => 0
set_option maxRecDepth 100000 in
set_option maxHeartbeats 1000000 in
theorem rroot_any (base b : Nat) (rs : List Rm) (m : Int) (w : World) (h : Rs base w b rs) :
    Calls Try.prog 22 #[.pointer (some ⟨b, 0, none⟩), I m] w fun e w' => e = .returned (.tuple #[I (if rIs rs m then rNd rs m else 0), .bool (rIs rs m)]) ∧ w' = w := by
  have HI := hide (ris_any base b rs m w h)
  obtain ⟨g, cap, c0, _, _, _, hc⟩ := h.cells
  cases hi : rIs rs m with
  | false =>
    rw [hi] at HI
    clear hc h hi
    simp only [Bool.false_eq_true, if_false]
    go_enter Try.func22, Try.ntmps22
    go_wp2_with fail
    refine (unhide HI).mono ?_
    rintro e w' ⟨rfl, hw'⟩
    rw [hw']
    clear hw' HI
    go_wp2_with fail
    go_ret2
    exact ⟨rfl, rfl⟩
  | true =>
    rw [hi] at HI
    have h0 : 0 ≤ m := by
      simp [rIs] at hi
      exact hi.1
    obtain ⟨j, rfl⟩ : ∃ j : Nat, m = (j : Int) := ⟨m.toNat, by omega⟩
    obtain ⟨p, hp⟩ : ∃ p, rs[j]? = some p := by
      cases hq : rs[j]? with
      | none => simp [rIs, hq] at hi
      | some p => exact ⟨p, rfl⟩
    obtain ⟨_, _, d2, _⟩ := hc j p hp
    have hj := (List.getElem?_eq_some_iff.1 hp).1
    have j1 : (j : Int) < (rs.length : Int) := by omega
    have en : rNd rs (j : Int) = p.nd := by simp [rNd, hp]
    rw [en]
    simp only [if_true]
    generalize p.nd = nd at *
    clear hc h hi hp en hj
    generalize rs.length = N at *
    go_enter Try.func22, Try.ntmps22
    go_wp2_with fail
    refine (unhide HI).mono ?_
    rintro e w' ⟨rfl, hw'⟩
    rw [hw']
    clear hw' HI
    go_wp2_with fail
    go_ret2
    exact ⟨rfl, rfl⟩
set_option maxRecDepth 100000 in
set_option maxHeartbeats 1000000 in
theorem rcov_any (base b : Nat) (rs : List Rm) (n : Int) (w : World) (h : Rs base w b rs) (hl : rs.length ≤ 1000) :
    Calls Try.prog 24 #[.pointer (some ⟨b, 0, none⟩), I n] w fun e w' => (∃ r, Ov rs (lvNd n) r ∧ e = .returned (.bool (decide (0 ≤ r)))) ∧ w' = w := by
  have hlen := h.len
  obtain ⟨g, cap, c0, _, _, _, hc⟩ := h.cells
  obtain ⟨N, hN⟩ : ∃ N, N = rs.length := ⟨_, rfl⟩
  have HN := hide hN
  rw [← hN] at hl hlen c0
  have HC := hide hc
  clear h hN hc
  go_enter Try.func24, Try.ntmps24
  go_wp2_with fail
  go_loopw [5] (fun v wr => ∃ k : Nat, v = I k ∧ 1 ≤ k ∧ k ≤ N ∧ (∀ i p, 1 ≤ i → i < k → rs[i]? = some p → lvNd n p = false) ∧ wr = w) (fun v _ => N - (intOf v).toNat)
  case atStart => exact ⟨1, rfl, Nat.le_refl _, by omega, fun i p h1 h2 => by omega, rfl⟩
  case round =>
    obtain ⟨k, rfl, hk1, hk, hno, hwr⟩ := hrel
    rw [hwr]
    clear hwr
    by_cases hkn : k < N
    · obtain ⟨p, hp⟩ : ∃ p, rs[k]? = some p := ⟨_, List.getElem?_eq_getElem (by have := unhide HN; omega)⟩
      obtain ⟨d0, d1, d2, d3⟩ := unhide HC k p hp
      have j1 : (k : Int) < (N : Int) := by omega
      have j0 : (0 : Int) ≤ (k : Int) := by omega
      have HP := hide hp
      have HNO := hide hno
      clear hp hno
      obtain ⟨am, an, nd, lv⟩ := p
      simp only [] at d0 d1 d2 d3
      by_cases hP : lv = true ∧ an = n
      · obtain ⟨rfl, rfl⟩ := hP
        go_wp2_with fail
        go_ret
        exact ⟨⟨_, .inr ⟨k, _, rfl, hk1, unhide HP, by simp [lvNd]⟩, by rw [decide_eq_true (show (0 : Int) ≤ (k : Int) by omega)]; rfl⟩, rfl⟩
      · have HPf : Hid (lvNd n ⟨am, an, nd, lv⟩ = false) := by
          cases lv <;> simp_all [Hid, lvNd]
        have HREL : Hid (∀ i p, 1 ≤ i → i < k + 1 → rs[i]? = some p → lvNd n p = false) := by
          intro i q h1 h2 h3
          by_cases e : i = k
          · subst e
            rw [unhide HP] at h3
            cases h3
            exact unhide HPf
          · exact unhide HNO i q h1 (by omega) h3
        clear HPf HNO HP
        cases lv with
        | false =>
          clear hP
          go_wp2_with fail
          go_roundw
          case rel => exact ⟨k + 1, by go_num, by omega, by omega, unhide HREL, by trivial⟩
          case measure => simp [intOf]; omega
        | true =>
          have e2 : ¬ an = n := fun e => hP ⟨rfl, e⟩
          clear hP
          go_wp2_with fail
          go_roundw
          case rel => exact ⟨k + 1, by go_num, by omega, by omega, unhide HREL, by trivial⟩
          case measure => simp [intOf]; omega
    · obtain rfl : k = N := by omega
      have HNO := hide hno
      clear hno
      go_wp2_with fail
      go_ret
      refine ⟨⟨-1, .inl ⟨rfl, fun i p h1 h2 => unhide HNO i p h1 ?_ h2⟩, by rfl⟩, rfl⟩
      have := (List.getElem?_eq_some_iff.1 h2).1
      have := unhide HN
      omega
/-- Numbers of those that are so, from lo on. -/
def nums (rs : List Rm) (P : Rm → Bool) (lo k : Nat) : List Int := ((List.range k).filter fun i => decide (lo ≤ i) && (match rs[i]? with | some p => P p | none => false)).map (fun (i : Nat) => (i : Int))
theorem nums_yes {rs : List Rm} {P : Rm → Bool} {lo k : Nat} {p : Rm} (h : rs[k]? = some p) (hl : lo ≤ k) (hp : P p = true) : nums rs P lo (k + 1) = nums rs P lo k ++ [(k : Int)] := by
  rw [nums, nums, List.range_succ, List.filter_append, List.map_append]
  simp [h, hl, hp]
theorem nums_no {rs : List Rm} {P : Rm → Bool} {lo k : Nat} {p : Rm} (h : rs[k]? = some p) (hp : P p = false) : nums rs P lo (k + 1) = nums rs P lo k := by
  rw [nums, nums, List.range_succ, List.filter_append, List.map_append]
  simp [h, hp]
theorem nums_len (rs : List Rm) (P : Rm → Bool) (lo k : Nat) : (nums rs P lo k).length ≤ k := by
  have := List.length_filter_le (fun i => decide (lo ≤ i) && (match rs[i]? with | some p => P p | none => false)) (List.range k)
  simp [nums] at this ⊢
  omega
theorem nums_zero (rs : List Rm) (P : Rm → Bool) (lo : Nat) : nums rs P lo lo = [] := by
  rw [nums, List.map_eq_nil_iff, List.filter_eq_nil_iff]
  intro i hi
  rw [List.mem_range] at hi
  simp; omega
def lvAll : Rm → Bool := fun p => p.lv
def lvIn (m : Int) : Rm → Bool := fun p => p.lv && decide (p.am = m)
set_option maxRecDepth 100000 in
set_option maxHeartbeats 1000000 in
theorem rlist_any (base b : Nat) (rs : List Rm) (w : World) (h : Rs base w b rs) (hl : rs.length ≤ 1000) :
    Calls Try.prog 26 #[.pointer (some ⟨b, 0, none⟩)] w fun e w' => ∃ v, e = .returned v ∧ w'.ownsRow w.heap.size 3 1 v (nums rs lvAll 0 rs.length).length (ints (nums rs lvAll 0 rs.length)) ∧ Below w.heap.size w w' := by
  have hlen := h.len
  obtain ⟨i0, hi, hz0, hz1, hz2⟩ := info_parts info3
  obtain ⟨N, hN⟩ : ∃ N, N = rs.length := ⟨_, rfl⟩
  have HN := hide hN
  rw [← hN] at hl hlen ⊢
  have HR := hide h
  clear h hN
  go_enter Try.func26, Try.ntmps26
  go_wp2_with fail
  go_loopw [3, 4] (fun vo v wr => ∃ k : Nat, v = I k ∧ 0 ≤ k ∧ k ≤ N ∧ wr.ownsRow w.heap.size 3 1 vo (nums rs lvAll 0 k).length (ints (nums rs lvAll 0 k)) ∧ Below w.heap.size w wr) (fun _ v _ => N - (intOf v).toNat)
  case atStart => exact ⟨0, rfl, Nat.le_refl _, by omega, by rw [nums_zero]; exact World.ownsRow_nil _ _ _ _, Below.refl _ _⟩
  case round =>
    obtain ⟨k, rfl, hk1, hk, own, hbr⟩ := hrel
    have hR := (unhide HR).below hbr
    obtain ⟨g, cap, c0, _, _, _, hc⟩ := hR.cells
    rw [← unhide HN] at c0
    have hs4 := hbr.size
    by_cases hkn : k < N
    · obtain ⟨p, hp⟩ : ∃ p, rs[k]? = some p := ⟨_, List.getElem?_eq_getElem (by have := unhide HN; omega)⟩
      obtain ⟨d0, d1, d2, d3⟩ := hc k p hp
      have j1 : (k : Int) < (N : Int) := by omega
      have j0 : (0 : Int) ≤ (k : Int) := by omega
      have hil := nums_len rs lvAll 0 k
      cases hP : lvAll p with
      | true =>
        have own5 := own_keep (W' := wr.alloc (.cells #[I (k : Int)] 3)) own (fun k cur hc => Below.heap_alloc wr _ _ (lt_of_heap hc))
        obtain ⟨v', W5, hrun, own6, hgr, -, -⟩ := run_append_own_at (P := Try.prog) (wr.alloc (.cells #[I (k : Int)] 3)) w.heap.size 35 35 3 i0 (I 0) 1 8 Try.underlying35 hi hz0 hz1 hz2 rfl (by decide) _ _ _ own5 ⟨wr.heap.size, 0, none⟩ 1 1 [I (k : Int)] rfl (cell_one_new wr _ _) (by intro u hu; simp at hu; subst hu; rfl) (by unfold maxLen; omega) (by omega) (by simp; omega)
        have hb5 := below_grown (hbr.alloc hbr.size _) own5 hgr (by simp; omega)
        have HREL := hide (⟨k + 1, by go_num, by omega, by omega, by rw [nums_yes hp hk1 hP, List.length_append]; simpa [ints] using own6, hb5⟩ : ∃ k' : Nat, I ((k : Int) + 1) = I (k' : Int) ∧ 0 ≤ k' ∧ k' ≤ N ∧ W5.ownsRow w.heap.size 3 1 v' (nums rs lvAll 0 k').length (ints (nums rs lvAll 0 k')) ∧ Below w.heap.size w W5)
        obtain ⟨q', cp, rfl⟩ := own_form own6
        rw [show p.lv = true from hP] at d3
        clear own own5 own6 hgr hb5 hR hc hp hil
        go_wp2_with (at_builtin; refine wpList_append_eq rfl _ _ 35 rfl 35 rfl _ _ rfl rfl _ _ hrun ?_)
        go_roundw
        case rel => exact unhide HREL
        case measure => simp [intOf]; omega
      | false =>
        have HREL := hide (⟨k + 1, by go_num, by omega, by omega, by rw [nums_no hp hP]; exact own, hbr⟩ : ∃ k' : Nat, I ((k : Int) + 1) = I (k' : Int) ∧ 0 ≤ k' ∧ k' ≤ N ∧ wr.ownsRow w.heap.size 3 1 _ (nums rs lvAll 0 k').length (ints (nums rs lvAll 0 k')) ∧ Below w.heap.size w wr)
        rw [show p.lv = false from hP] at d3
        clear own hR hc hp hil
        go_wp2_with fail
        go_roundw
        case rel => exact unhide HREL
        case measure => simp [intOf]; omega
    · obtain rfl : k = N := by omega
      have HO := hide own
      have HB := hide hbr
      clear hR hc own hbr
      go_wp2_with fail
      go_ret
      exact ⟨_, rfl, unhide HO, unhide HB⟩
set_option maxRecDepth 100000 in
set_option maxHeartbeats 1000000 in
theorem rabove_any (base b : Nat) (rs : List Rm) (m : Int) (w : World) (h : Rs base w b rs) (hl : rs.length ≤ 1000) :
    Calls Try.prog 27 #[.pointer (some ⟨b, 0, none⟩), I m] w fun e w' => ∃ v, e = .returned v ∧ w'.ownsRow w.heap.size 3 1 v (nums rs (lvIn m) 1 rs.length).length (ints (nums rs (lvIn m) 1 rs.length)) ∧ Below w.heap.size w w' := by
  have hlen := h.len
  obtain ⟨i0, hi, hz0, hz1, hz2⟩ := info_parts info3
  obtain ⟨N, hN⟩ : ∃ N, N = rs.length := ⟨_, rfl⟩
  have HN := hide hN
  rw [← hN] at hl hlen ⊢
  have HR := hide h
  clear h hN
  go_enter Try.func27, Try.ntmps27
  go_wp2_with fail
  go_loopw [5, 6] (fun vo v wr => ∃ k : Nat, v = I k ∧ 1 ≤ k ∧ k ≤ N ∧ wr.ownsRow w.heap.size 3 1 vo (nums rs (lvIn m) 1 k).length (ints (nums rs (lvIn m) 1 k)) ∧ Below w.heap.size w wr) (fun _ v _ => N - (intOf v).toNat)
  case atStart => exact ⟨1, rfl, Nat.le_refl _, by omega, by rw [nums_zero]; exact World.ownsRow_nil _ _ _ _, Below.refl _ _⟩
  case round =>
    obtain ⟨k, rfl, hk1, hk, own, hbr⟩ := hrel
    have hR := (unhide HR).below hbr
    obtain ⟨g, cap, c0, _, _, _, hc⟩ := hR.cells
    rw [← unhide HN] at c0
    have hs4 := hbr.size
    by_cases hkn : k < N
    · obtain ⟨p, hp⟩ : ∃ p, rs[k]? = some p := ⟨_, List.getElem?_eq_getElem (by have := unhide HN; omega)⟩
      obtain ⟨d0, d1, d2, d3⟩ := hc k p hp
      have j1 : (k : Int) < (N : Int) := by omega
      have j0 : (0 : Int) ≤ (k : Int) := by omega
      have hil := nums_len rs (lvIn m) 1 k
      cases hP : (lvIn m) p with
      | true =>
        have own5 := own_keep (W' := wr.alloc (.cells #[I (k : Int)] 3)) own (fun k cur hc => Below.heap_alloc wr _ _ (lt_of_heap hc))
        obtain ⟨v', W5, hrun, own6, hgr, -, -⟩ := run_append_own_at (P := Try.prog) (wr.alloc (.cells #[I (k : Int)] 3)) w.heap.size 35 35 3 i0 (I 0) 1 8 Try.underlying35 hi hz0 hz1 hz2 rfl (by decide) _ _ _ own5 ⟨wr.heap.size, 0, none⟩ 1 1 [I (k : Int)] rfl (cell_one_new wr _ _) (by intro u hu; simp at hu; subst hu; rfl) (by unfold maxLen; omega) (by omega) (by simp; omega)
        have hb5 := below_grown (hbr.alloc hbr.size _) own5 hgr (by simp; omega)
        have HREL := hide (⟨k + 1, by go_num, by omega, by omega, by rw [nums_yes hp hk1 hP, List.length_append]; simpa [ints] using own6, hb5⟩ : ∃ k' : Nat, I ((k : Int) + 1) = I (k' : Int) ∧ 1 ≤ k' ∧ k' ≤ N ∧ W5.ownsRow w.heap.size 3 1 v' (nums rs (lvIn m) 1 k').length (ints (nums rs (lvIn m) 1 k')) ∧ Below w.heap.size w W5)
        obtain ⟨q', cp, rfl⟩ := own_form own6
        have hq : p.lv = true ∧ p.am = m := by simpa [lvIn] using hP
        rw [hq.1] at d3
        have hm := hq.2
        rw [hm] at d0
        clear hm hq
        clear own own5 own6 hgr hb5 hR hc hp hil
        go_wp2_with (at_builtin; refine wpList_append_eq rfl _ _ 35 rfl 35 rfl _ _ rfl rfl _ _ hrun ?_)
        go_roundw
        case rel => exact unhide HREL
        case measure => simp [intOf]; omega
      | false =>
        have HREL := hide (⟨k + 1, by go_num, by omega, by omega, by rw [nums_no hp hP]; exact own, hbr⟩ : ∃ k' : Nat, I ((k : Int) + 1) = I (k' : Int) ∧ 1 ≤ k' ∧ k' ≤ N ∧ wr.ownsRow w.heap.size 3 1 _ (nums rs (lvIn m) 1 k').length (ints (nums rs (lvIn m) 1 k')) ∧ Below w.heap.size w wr)
        cases hv : p.lv with
        | false =>
          rw [hv] at d3
          clear own hR hc hp hil hP
          go_wp2_with fail
          go_roundw
          case rel => exact unhide HREL
          case measure => simp [intOf]; omega
        | true =>
          rw [hv] at d3
          have hm : ¬ p.am = m := by simpa [lvIn, hv] using hP
          clear own hR hc hp hil hP
          go_wp2_with fail
          go_roundw
          case rel => exact unhide HREL
          case measure => simp [intOf]; omega
    · obtain rfl : k = N := by omega
      have HO := hide own
      have HB := hide hbr
      clear hR hc own hbr
      go_wp2_with fail
      go_ret
      exact ⟨_, rfl, unhide HO, unhide HB⟩
end Go.Proofs.Ythmpplcaomgdoaa.Mt
