/-
  Results and calls held against one another.
-/
import Derived.Test.YtlokihpegllddaaHE
namespace Go.Proofs.Ytlokihpegllddaa.Cl
open Go.RowKit Go.Shelf
attribute [local go_sem ↓] Go.wp_at_zero Go.wp_at_succ

/-- Bytes as a text. -/
theorem conv_by {W : World} {B : Nat} {a : Option Addr} {l : List UInt8} (h : By W B a l) (n c : Nat) (hn : n = l.length) : (convert 26 9 (.slice a n c)).run Try.prog W = .ok (S l) W := by
  subst hn
  cases l with
  | nil =>
    rw [run_convert_bytes_string W 26 9 5 a _ c Try.underlying26 Try.underlying5 Try.underlying9]
    cases a with
    | none => simp [Conv.bytesToString]; rfl
    | some a =>
      rw [run_bytesToString W a _ c [] (by simp [loadCells, loadCellsFrom])]
      rfl
  | cons x l =>
    obtain ⟨b, off, rfl, -, -⟩ := h 0 x rfl
    refine run_convert_bytes_back W 26 9 5 ⟨b, off, none⟩ c (x :: l) Try.underlying26 Try.underlying5 Try.underlying9 (fun j hj => ?_)
    obtain ⟨b', o', e1, -, e3⟩ := h j _ (List.getElem?_eq_getElem hj)
    simp at e1
    obtain ⟨rfl, rfl⟩ := e1
    rw [addAt, e3]
theorem bs_list (l : List UInt8) : (bs l).toList = l := by rw [ByteArray.toList_eq]
theorem Dq.conv {W : World} {h : Nat} {s : Sl} {l : List UInt8} (q : Dq W h s l) : (convert 26 9 (.slice s.a s.n s.c)).run Try.prog W = .ok (S l) W := conv_by q.by' s.n s.c q.1
set_option maxRecDepth 100000 in
set_option maxHeartbeats 1000000 in
theorem eqB_any (s1 s2 : Sl) (l1 l2 : List UInt8) (w : World) (h1 : Dq w w.heap.size s1 l1) (h2 : Dq w w.heap.size s2 l2) :
    Calls Try.prog 25 #[.slice s1.a s1.n s1.c, .slice s2.a s2.n s2.c] w fun e w' => e = .returned (.bool (l1 == l2)) ∧ w' = w := by
  have c1 := h1.conv
  have c2 := h2.conv
  have e1 := bs_list l1
  have e2 := bs_list l2
  clear h1 h2
  go_enter Try.func25, Try.ntmps25
  go_wp2_with fail
  go_ret
  exact ⟨rfl, rfl⟩

set_option maxRecDepth 100000 in
set_option maxHeartbeats 2000000 in
theorem eqS_any (s1 s2 : Sl) (l1 l2 : List (List UInt8)) (w : World) (h1 : Nq w w.heap.size s1 l1) (h2 : Nq w w.heap.size s2 l2) :
    Calls Try.prog 26 #[.slice s1.a s1.n s1.c, .slice s2.a s2.n s2.c] w fun e w' => e = .returned (.bool (decide (l1 = l2))) ∧ ∃ m, w' = w.drewN m := by
  have n1 := h1.1
  have n2 := h2.1
  have hb : s1.n ≤ 9223372036854775807 := Nat.le_trans (Nat.le_trans h1.2.1 h1.2.2.1) (by decide)
  by_cases hl : l1.length = l2.length
  · have hl' : ((s1.n : Int) != (s2.n : Int)) = false := by simp; omega
    have hn12 : s1.n = s2.n := by omega
    have H1 := hide h1
    have H2 := hide h2
    have HN := hide (⟨n1, n2, hl, hn12⟩ : _ ∧ _ ∧ _ ∧ _)
    obtain ⟨a1, m1, c1⟩ := s1
    obtain ⟨a2, m2, c2⟩ := s2
    simp only at hl' hb n1 n2 hn12 ⊢
    clear h1 h2 n1 n2 hl hn12
    go_enter Try.func26, Try.ntmps26
    go_wp2_with fail
    go_loopw [13] (fun i wr => ∃ k m : Nat, k ≤ m1 ∧ i = .int .i64 k ∧ wr = w.drewN m ∧ ∀ j, j < k → l1[j]? = l2[j]?) (fun i _ => m1 - (intOf i).toNat)
    case atStart => exact ⟨0, 0, Nat.zero_le _, rfl, rfl, fun j h => by omega⟩
    case round =>
      obtain ⟨k, m, hk, rfl, rfl, hall⟩ := hrel
      have HA := hide hall
      clear hall
      by_cases hkn : k < m1
      · have j1 : (k : Int) < (m1 : Int) := by omega
        have j0 : (0 : Int) ≤ (k : Int) := by omega
        have j2 : (k : Int) < (m2 : Int) := by have h : m1 = m2 := (unhide HN).2.2.2; omega
        obtain ⟨x, hx⟩ : ∃ x, l1[k]? = some x := ⟨_, List.getElem?_eq_getElem (by have h : m1 = _ := (unhide HN).1; omega)⟩
        obtain ⟨y, hy⟩ : ∃ y, l2[k]? = some y := ⟨_, List.getElem?_eq_getElem (by have h : m2 = _ := (unhide HN).2.1; omega)⟩
        obtain ⟨g1, o1, e1, -, -, p1⟩ := (unhide H1).2.2.2 k x hx
        obtain ⟨g2, o2, e2, -, -, p2⟩ := (unhide H2).2.2.2 k y hy
        simp only at e1 e2
        subst e1 e2
        have q1 : (w.drewN m).cell? ⟨g1, o1 + k, none⟩ = some (S x) := p1
        have q2 : (w.drewN m).cell? ⟨g2, o2 + k, none⟩ = some (S y) := p2
        have r1 : (w.drewN m).drew.cell? ⟨g1, o1 + k, none⟩ = some (S x) := p1
        have r2 : (w.drewN m).drew.cell? ⟨g2, o2 + k, none⟩ = some (S y) := p2
        have bx := bs_list x
        have by_ := bs_list y
        by_cases hxy : x = y
        · have t1 : (x != y) = false := by simp [hxy]
          have t2 : (x == y) = true := by simp [hxy]
          have HX := hide (show l1[k]? = l2[k]? by rw [hx, hy, hxy])
          clear hx hy hxy
          go_wp2_with fail
          go_region
          all_goals go_wp2_with fail
          all_goals exact ⟨⟨k + 1, m + 1, by omega, by go_num, rfl, fun j hj => by
            rcases Nat.lt_or_ge j k with h | h
            · exact unhide HA j h
            · obtain rfl : j = k := by omega
              exact unhide HX⟩, by simp [intOf]; omega⟩
        · have t1 : (x != y) = true := by simp [hxy]
          have t2 : (x == y) = false := by simp [hxy]
          have HX := hide (show l1 ≠ l2 by rintro rfl; rw [hx] at hy; exact hxy (Option.some.inj hy))
          clear hx hy hxy
          go_wp2_with fail
          go_region
          all_goals go_wp2_with fail
          all_goals go_ret
          all_goals exact ⟨by simp [unhide HX], m + 1, rfl⟩
      · obtain rfl : k = m1 := by omega
        have kk : ¬ (k : Int) < (k : Int) := by omega
        have HX := hide (show l1 = l2 from List.ext_getElem? fun j => by
          rcases Nat.lt_or_ge j k with h | h
          · exact unhide HA j h
          · have h1 : k = _ := (unhide HN).1
            have h2 := (unhide HN).2.2.1
            rw [List.getElem?_eq_none (by omega), List.getElem?_eq_none (by omega)])
        go_wp2_with fail
        go_ret
        exact ⟨by simp [unhide HX], m, rfl⟩
  · have hl' : ((s1.n : Int) != (s2.n : Int)) = true := by simp; omega
    have hne : l1 ≠ l2 := by rintro rfl; exact hl rfl
    have e : decide (l1 = l2) = false := by simp [hne]
    rw [e]
    clear h1 h2 n1 n2 hl hne hb e
    go_enter Try.func26, Try.ntmps26
    go_wp2_with fail
    go_ret
    exact ⟨rfl, 0, rfl⟩

set_option maxRecDepth 100000 in
set_option maxHeartbeats 2000000 in
theorem texts_any (s1 s2 : Sl) (l1 l2 : List (List UInt8)) (w : World) (h1 : Nq w w.heap.size s1 l1) (h2 : Nq w w.heap.size s2 l2) :
    Calls Try.prog 27 #[.slice s1.a s1.n s1.c, .slice s2.a s2.n s2.c] w fun e w' => e = .returned (.bool (decide (l1 = l2))) ∧ ∃ m, w' = w.drewN m := by
  have n1 := h1.1
  have n2 := h2.1
  have hb : s1.n ≤ 9223372036854775807 := Nat.le_trans (Nat.le_trans h1.2.1 h1.2.2.1) (by decide)
  by_cases hl : l1.length = l2.length
  · have hl' : ((s1.n : Int) != (s2.n : Int)) = false := by simp; omega
    have hn12 : s1.n = s2.n := by omega
    have H1 := hide h1
    have H2 := hide h2
    have HN := hide (⟨n1, n2, hl, hn12⟩ : _ ∧ _ ∧ _ ∧ _)
    obtain ⟨a1, m1, c1⟩ := s1
    obtain ⟨a2, m2, c2⟩ := s2
    simp only at hl' hb n1 n2 hn12 ⊢
    clear h1 h2 n1 n2 hl hn12
    go_enter Try.func27, Try.ntmps27
    go_wp2_with fail
    go_loopw [5] (fun i wr => ∃ k m : Nat, k ≤ m1 ∧ i = .int .i64 k ∧ wr = w.drewN m ∧ ∀ j, j < k → l1[j]? = l2[j]?) (fun i _ => m1 - (intOf i).toNat)
    case atStart => exact ⟨0, 0, Nat.zero_le _, rfl, rfl, fun j h => by omega⟩
    case round =>
      obtain ⟨k, m, hk, rfl, rfl, hall⟩ := hrel
      have HA := hide hall
      clear hall
      by_cases hkn : k < m1
      · have j1 : (k : Int) < (m1 : Int) := by omega
        have j0 : (0 : Int) ≤ (k : Int) := by omega
        have j2 : (k : Int) < (m2 : Int) := by have h : m1 = m2 := (unhide HN).2.2.2; omega
        obtain ⟨x, hx⟩ : ∃ x, l1[k]? = some x := ⟨_, List.getElem?_eq_getElem (by have h : m1 = _ := (unhide HN).1; omega)⟩
        obtain ⟨y, hy⟩ : ∃ y, l2[k]? = some y := ⟨_, List.getElem?_eq_getElem (by have h : m2 = _ := (unhide HN).2.1; omega)⟩
        obtain ⟨g1, o1, e1, -, -, p1⟩ := (unhide H1).2.2.2 k x hx
        obtain ⟨g2, o2, e2, -, -, p2⟩ := (unhide H2).2.2.2 k y hy
        simp only at e1 e2
        subst e1 e2
        have q1 : (w.drewN m).cell? ⟨g1, o1 + k, none⟩ = some (S x) := p1
        have q2 : (w.drewN m).cell? ⟨g2, o2 + k, none⟩ = some (S y) := p2
        have r1 : (w.drewN m).drew.cell? ⟨g1, o1 + k, none⟩ = some (S x) := p1
        have r2 : (w.drewN m).drew.cell? ⟨g2, o2 + k, none⟩ = some (S y) := p2
        have bx := bs_list x
        have by_ := bs_list y
        by_cases hxy : x = y
        · have t1 : (x != y) = false := by simp [hxy]
          have t2 : (x == y) = true := by simp [hxy]
          have HX := hide (show l1[k]? = l2[k]? by rw [hx, hy, hxy])
          clear hx hy hxy
          go_wp2_with fail
          go_region
          all_goals go_wp2_with fail
          all_goals exact ⟨⟨k + 1, m + 1, by omega, by go_num, rfl, fun j hj => by
            rcases Nat.lt_or_ge j k with h | h
            · exact unhide HA j h
            · obtain rfl : j = k := by omega
              exact unhide HX⟩, by simp [intOf]; omega⟩
        · have t1 : (x != y) = true := by simp [hxy]
          have t2 : (x == y) = false := by simp [hxy]
          have HX := hide (show l1 ≠ l2 by rintro rfl; rw [hx] at hy; exact hxy (Option.some.inj hy))
          clear hx hy hxy
          go_wp2_with fail
          go_region
          all_goals go_wp2_with fail
          all_goals go_ret
          all_goals exact ⟨by simp [unhide HX], m + 1, rfl⟩
      · obtain rfl : k = m1 := by omega
        have kk : ¬ (k : Int) < (k : Int) := by omega
        have HX := hide (show l1 = l2 from List.ext_getElem? fun j => by
          rcases Nat.lt_or_ge j k with h | h
          · exact unhide HA j h
          · have h1 : k = _ := (unhide HN).1
            have h2 := (unhide HN).2.2.1
            rw [List.getElem?_eq_none (by omega), List.getElem?_eq_none (by omega)])
        go_wp2_with fail
        go_ret
        exact ⟨by simp [unhide HX], m, rfl⟩
  · have hl' : ((s1.n : Int) != (s2.n : Int)) = true := by simp; omega
    have hne : l1 ≠ l2 := by rintro rfl; exact hl rfl
    have e : decide (l1 = l2) = false := by simp [hne]
    rw [e]
    clear h1 h2 n1 n2 hl hne hb e
    go_enter Try.func27, Try.ntmps27
    go_wp2_with fail
    go_ret
    exact ⟨rfl, 0, rfl⟩

end Go.Proofs.Ytlokihpegllddaa.Cl
