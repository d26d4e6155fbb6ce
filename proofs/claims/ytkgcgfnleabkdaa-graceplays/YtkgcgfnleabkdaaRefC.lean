/-
  The document's own Grace: the contract of Leave.
-/
import Derived.Test.YtkgcgfnleabkdaaRefB
namespace Go.Proofs.Ytkgcgfnleabkdaa
open Go.RowKit
attribute [local go_sem ↓] Go.wp_at_zero Go.wp_at_succ

def clp (r : Nat) (y : Pr) : Pr := (clr r y.1, y.2)
def mixp (r : Nat) (ps : List Pr) (i : Nat) : List Pr := (ps.take i).map (clp r) ++ ps.drop i
theorem mixp_zero (r : Nat) (ps : List Pr) : mixp r ps 0 = ps := by simp [mixp]
theorem mixp_full (r : Nat) (ps : List Pr) : mixp r ps ps.length = ps.map (clp r) := by simp [mixp]
theorem mixp_len (r : Nat) (ps : List Pr) (i : Nat) : (mixp r ps i).length = ps.length := by simp [mixp]; omega
theorem mixp_get (r : Nat) (ps : List Pr) (i : Nat) (h : i < ps.length) : (mixp r ps i)[i]? = some ps[i] := by
  unfold mixp
  rw [List.getElem?_append_right (by simp; omega)]
  simp
  rw [Nat.min_eq_left (by omega)]; simp [h]
theorem mixp_succ (r : Nat) (ps : List Pr) (i : Nat) (h : i < ps.length) : (mixp r ps i).set i (clp r ps[i]) = mixp r ps (i + 1) := by
  unfold mixp
  rw [List.set_append_right _ _ (by simp; omega)]
  simp only [List.length_map, List.length_take, Nat.min_eq_left (Nat.le_of_lt h), Nat.sub_self]
  rw [List.drop_eq_getElem_cons h, List.set_cons_zero, List.take_add_one, List.getElem?_eq_getElem h]
  simp only [List.map_append, Option.toList_some, List.map_cons, List.map_nil, List.append_assoc, List.singleton_append]
theorem clp_ws (r : Nat) (ps : List Pr) : wsOfP (ps.map (clp r)) = (wsOfP ps).map (clr r) := by simp [wsOfP, clp, Function.comp_def]

section
variable {base : Nat} {W : World} {rb rc n : Nat} {ss : List Int} {ps : List Pr}
/-- One reader less for one that waits. -/
theorem Rg.setBit (h : Rg base W rb rc n ss ps) {i : Nat} {x : Wt} {g : Nat} (hi : ps[i]? = some (x, g)) (r : Nat) : Rg base (W.setCell ⟨g, r, none⟩ (.bool false)) rb rc n ss (ps.set i (clp r (x, g))) := by
  obtain ⟨a, cap, h1, h2⟩ := h.hb
  obtain ⟨hg, hgb⟩ := h.wh i x g hi
  have hil := (List.getElem?_eq_some_iff.1 hi).1
  have ne : ∀ {k' : Nat} {cur : Array Value} {t : TypeId}, W.heap[k']? = some (.cells cur t (0, 0)) → t ≠ 4 → k' ≠ g := by
    rintro k' cur t h3 h4 rfl
    rw [hg] at h3
    simp at h3
    exact h4 h3.2.symm
  have hset : ∀ j y g', (ps.set i (clp r (x, g)))[j]? = some (y, g') → (j = i ∧ y = clr r x ∧ g' = g) ∨ (j ≠ i ∧ ps[j]? = some (y, g')) := by
    intro j y g' hj
    by_cases e : i = j
    · subst e
      rw [List.getElem?_set_self hil] at hj
      simp [clp] at hj
      exact .inl ⟨rfl, hj.1.symm, hj.2.symm⟩
    · rw [List.getElem?_set_ne e] at hj
      exact .inr ⟨fun e' => e e'.symm, hj⟩
  have erow : rowsOf (Rrow n) (ps.set i (clp r (x, g))) = rowsOf (Rrow n) ps := by
    apply rows_ids
    rw [List.map_set]
    apply List.ext_getElem?
    intro j
    by_cases e : i = j
    · subst e
      rw [List.getElem?_set_self (by simpa using hil)]
      simp [hi, clp, clr]
    · rw [List.getElem?_set_ne e]
  refine ⟨⟨a, cap, ?_, ?_⟩, (Below.heap_setCell _ _ _ _ (ne h.hc (by decide))).trans h.hc, h.len, h.lo, h.hi, h.kb, h.kc, fun j y g' hj => ?_, fun j j' y y' g' hj hj' => ?_, fun y hy q hq => ?_⟩
  · rw [List.length_set]; exact (Below.heap_setCell _ _ _ _ (ne h1 (by decide))).trans h1
  · rw [List.length_set, erow]; exact own_keep h2 fun k' cur hc' => Below.heap_setCell _ _ _ _ (ne hc' (by decide))
  · rcases hset j y g' hj with ⟨rfl, rfl, rfl⟩ | ⟨hne, hq⟩
    · refine ⟨?_, hgb⟩
      rw [heap_set hg, show (clr r x).on = put x.on r false from rfl, ← bl_set]; simp
    · obtain ⟨h3, h4⟩ := h.wh j y g' hq
      exact ⟨(Below.heap_setCell _ _ _ _ (by intro (e : g' = g); subst e; exact hne (h.nd _ _ _ _ _ hq hi))).trans h3, h4⟩
  · rcases hset j y g' hj with ⟨e1, _, e2⟩ | ⟨_, q1⟩ <;> rcases hset j' y' _ hj' with ⟨e3, _, e4⟩ | ⟨_, q2⟩
    · rw [e1, e3]
    · rw [e1]; rw [e2] at q2; exact h.nd _ _ _ _ _ hi q2
    · rw [e3]; rw [e4] at q1; exact h.nd _ _ _ _ _ q1 hi
    · exact h.nd _ _ _ _ _ q1 q2
  · obtain ⟨j, hj⟩ := List.mem_iff_getElem?.1 hy
    obtain ⟨y, g'⟩ := y
    rcases hset j y g' hj with ⟨rfl, rfl, rfl⟩ | ⟨hne, hj⟩
    · simp only [clr, put]
      split
      · rfl
      · exact h.up (x, g') (List.mem_of_getElem? hi) q hq
    · exact h.up (y, g') (List.mem_of_getElem? hj) q hq
end

set_option maxHeartbeats 400000 in
theorem rleave_no (base : Nat) (rb rc n : Nat) (r : Int) (ss : List Int) (ps : List Pr) (w : World) (h : Rg base w rb rc n ss ps) (hr : r < 0 ∨ (n : Int) ≤ r) :
    Calls Try.prog 21 #[.pointer (some ⟨rb, 0, none⟩), .int .i64 r] w fun e w' => e = .returned (.int .i64 1) ∧ w' = w := by
  obtain ⟨a, cap, h0, h1, hf, hg, ho⟩ := h.cells
  clear h ho
  by_cases h3 : r < 0
  · clear hr
    go_enter Try.func21, Try.ntmps21
    go_wp2_with fail
    go_ret
    exact ⟨rfl, rfl⟩
  · have h4 : (n : Int) ≤ r := by omega
    clear hr
    go_enter Try.func21, Try.ntmps21
    go_wp2_with fail
    go_ret
    exact ⟨rfl, rfl⟩
set_option maxHeartbeats 400000 in
theorem rleave_past (base : Nat) (rb rc n k : Nat) (ss : List Int) (ps : List Pr) (w : World) (h : Rg base w rb rc n ss ps) (hk : ss[k]? = some 0) :
    Calls Try.prog 21 #[.pointer (some ⟨rb, 0, none⟩), .int .i64 (k : Int)] w fun e w' => e = .returned (.int .i64 16) ∧ w' = w := by
  have hkn := h.klt hk
  obtain ⟨a, cap, h0, h1, hf, hg, ho⟩ := h.cells
  have hs := h.sec hk
  have k1 : (k : Int) < (n : Int) := by omega
  have k2 : (0 : Int) ≤ (k : Int) := by omega
  have k3 : ((n : Int) ≤ (k : Int)) = False := by simp; omega
  clear h ho hk
  go_enter Try.func21, Try.ntmps21
  go_wp2_with fail
  go_ret
  exact ⟨rfl, rfl⟩
set_option maxHeartbeats 400000 in
theorem rleave_deep (base : Nat) (rb rc n k : Nat) (s : Int) (ss : List Int) (ps : List Pr) (w : World) (h : Rg base w rb rc n ss ps) (hk : ss[k]? = some s) (s0 : 1 < s) (s1 : s ≤ 1000000) :
    Calls Try.prog 21 #[.pointer (some ⟨rb, 0, none⟩), .int .i64 (k : Int)] w fun e w' => e = .returned (.int .i64 0) ∧ Rg base w' rb rc n (ss.set k (s - 1)) ps ∧ RFr base rb rc w w' := by
  have hkn := h.klt hk
  obtain ⟨a, cap, h0, h1, hf, hg, ho⟩ := h.cells
  have hs := h.sec hk
  have k1 : (k : Int) < (n : Int) := by omega
  have k2 : (0 : Int) ≤ (k : Int) := by omega
  have k3 : ((n : Int) ≤ (k : Int)) = False := by simp; omega
  have HG := hide (h.setSec k (s - 1))
  have HB := hide h.kb
  have HC := hide h.kc
  have hnb := h.nb
  have z1 : ¬ s = 0 := by omega
  have z2 : ¬ s - 1 = 0 := by omega
  clear h ho hk
  go_enter Try.func21, Try.ntmps21
  go_wp2_with fail
  go_ret
  exact ⟨rfl, unhide HG, (RFr.refl base rb rc w).set (p := ⟨rc, k, none⟩) (.inr rfl) (unhide HB) (unhide HC) _⟩
set_option maxRecDepth 100000 in
set_option maxHeartbeats 1000000 in
theorem rleave_out (base : Nat) (rb rc n r : Nat) (ss : List Int) (ps : List Pr) (w : World) (h : Rg base w rb rc n ss ps) (hws : ps.length ≤ 16) (hk : ss[r]? = some 1) :
    Calls Try.prog 21 #[.pointer (some ⟨rb, 0, none⟩), .int .i64 (r : Int)] w fun e w' => e = .returned (.int .i64 0) ∧ Rg base w' rb rc n (ss.set r 0) (ps.map (clp r)) ∧ RFr base rb rc w w' := by
  have hkn := h.klt hk
  obtain ⟨a, cap, h0, h1, hf, hg, ho⟩ := h.cells
  have hs := h.sec hk
  have k1 : (r : Int) < (n : Int) := by omega
  have k2 : (0 : Int) ≤ (r : Int) := by omega
  have k3 : ((n : Int) ≤ (r : Int)) = False := by simp; omega
  have HG := hide (h.setSec r 0)
  have HB := hide h.kb
  have HC := hide h.kc
  have hnb := h.nb
  clear h ho hk
  obtain ⟨m, hm⟩ : ∃ m, ps.length = m := ⟨_, rfl⟩
  rw [hm] at h1 hws
  have HM := hide hm
  clear hm
  go_enter Try.func21, Try.ntmps21
  go_wp2_with fail
  have HF0 := hide ((RFr.refl base rb rc w).set (p := ⟨rc, r, none⟩) (.inr rfl) (unhide HB) (unhide HC) (.int .i64 0))
  generalize w.setCell ⟨rc, r, none⟩ (.int .i64 0) = w1 at *
  clear h0 h1 hf hg hs
  go_loopw [5] (fun i wr => ∃ k : Nat, k ≤ m ∧ i = .int .i64 k ∧ Rg base wr rb rc n (ss.set r 0) (mixp r ps k) ∧ RFr base rb rc w wr) (fun i _ => m - (intOf i).toNat)
  case atStart => exact ⟨0, Nat.zero_le _, rfl, by rw [mixp_zero]; exact unhide HG, unhide HF0⟩
  case round =>
    obtain ⟨k, hk, rfl, G, F⟩ := hrel
    clear HG HF0
    obtain ⟨a2, cap2, h0, h1, hf, hg, ho⟩ := G.cells
    rw [mixp_len, unhide HM] at h1
    by_cases hkm : k < m
    · have j1 : (k : Int) < (m : Int) := by omega
      have j0 : (0 : Int) ≤ (k : Int) := by omega
      have j16 : (k : Int) < 16 := by omega
      have hkl : k < ps.length := by rw [unhide HM]; exact hkm
      have hx := mixp_get r ps k hkl
      generalize hy : ps[k] = y at hx
      obtain ⟨x, g⟩ := y
      obtain ⟨bb, rfl, c1, c2, _⟩ := rg_at ho hx
      obtain ⟨hgg, hgb⟩ := G.wh k x g hx
      have c3 : wr.cell? ⟨g, r, none⟩ = some (.bool (x.on r)) := by rw [cell_of hgg, List.getElem?_toArray]; exact bl_get n _ r hkn
      have f3 : ∀ i, wr.frozen? ⟨g, i, none⟩ = false := frozen_of hgg
      have G2 := G.setBit hx r
      have em := mixp_succ r ps k hkl
      rw [hy] at em
      rw [em] at G2
      have F2 : RFr base rb rc w (wr.setCell ⟨g, r, none⟩ (.bool false)) := F.trans ⟨rfl, rfl, rfl, by simp [World.setCell], fun k' hk' => Below.heap_setCell _ _ _ _ (by show k' ≠ g; omega), fun k' o q1 q2 q3 q4 q5 => (Below.heap_setCell _ _ _ _ (by rintro rfl; rw [hgg] at q1; exact q5 _ (Option.some.inj q1).symm)).trans q1⟩
      have HG2 := hide G2
      have HF2 := hide F2
      clear G F G2 F2 hx hy em ho hgg h0
      go_wp2_with fail
      go_roundw
      case rel => exact ⟨k + 1, by omega, by go_num, unhide HG2, unhide HF2⟩
      case measure => simp [intOf]; omega
    · obtain rfl : k = m := by omega
      have e2 : mixp r ps k = ps.map (clp r) := by rw [← unhide HM]; exact mixp_full r ps
      rw [e2] at G
      have HG := hide G
      have HF := hide F
      clear G F ho h0 e2
      go_wp2_with fail
      go_ret
      exact ⟨rfl, unhide HG, unhide HF⟩
end Go.Proofs.Ytkgcgfnleabkdaa
