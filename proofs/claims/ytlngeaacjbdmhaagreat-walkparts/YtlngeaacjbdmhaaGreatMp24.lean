/-
  The document's Root, Covered, List, Above.
-/
import Derived.Test.YtlngeaacjbdmhaaGreatMp23
import Derived.Deep.RegionLaw
import Derived.Test.YtlngeaacjbdmhaaGreatRows
import Derived.WalkKit
set_option maxRecDepth 100000
namespace Go.Proofs.YtlngeaacjbdmhaaGreat.Mt
open Go.RowKit
attribute [local go_sem ↓] Go.wp_at_zero Go.wp_at_succ
def rNd (rs : List Rm) (m : Int) : Int := match rs[m.toNat]? with | some p => p.nd | none => 0
def nums (rs : List Rm) (P : Rm → Bool) (lo k : Nat) : List Int := ((List.range k).filter fun i => decide (lo ≤ i) && (match rs[i]? with | some p => P p | none => false)).map (fun (i : Nat) => (i : Int))
theorem nums_yes {rs : List Rm} {P : Rm → Bool} {lo k : Nat} {p : Rm} (h : rs[k]? = some p) (hl : lo ≤ k) (hp : P p = true) : nums rs P lo (k + 1) = nums rs P lo k ++ [(k : Int)] := by
  rw [nums, nums, List.range_succ, List.filter_append, List.map_append]
  simp [h, hl, hp]
theorem nums_no {rs : List Rm} {P : Rm → Bool} {lo k : Nat} {p : Rm} (h : rs[k]? = some p) (hp : P p = false) : nums rs P lo (k + 1) = nums rs P lo k := by
  rw [nums, nums, List.range_succ, List.filter_append, List.map_append]
  simp [h, hp]
theorem nums_len (rs : List Rm) (P : Rm → Bool) (lo k : Nat) : (nums rs P lo k).length ≤ k := by
  have := List.length_filter_le (fun i => decide (lo ≤ i) && (match rs[i]? with | some p => P p | none => false)) (List.range k)
  simp [nums] at this ⊢
  omega
theorem nums_zero (rs : List Rm) (P : Rm → Bool) (lo : Nat) : nums rs P lo lo = [] := by
  rw [nums, List.map_eq_nil_iff, List.filter_eq_nil_iff]
  intro i hi
  rw [List.mem_range] at hi
  simp; omega
def lvAll : Rm → Bool := fun p => p.lv
def lvIn (m : Int) : Rm → Bool := fun p => p.lv && decide (p.am = m)
set_option maxHeartbeats 1000000 in
theorem rlist_any (base b : Nat) (rs : List Rm) (w : World) (h : Rs base w b rs) (hl : rs.length ≤ 1000) :
    Calls Tryz.prog 114 #[.pointer (some ⟨b, 0, none⟩)] w fun e w' => ∃ v, e = .returned v ∧ w'.ownsRow w.heap.size 3 1 v (nums rs lvAll 0 rs.length).length (ints (nums rs lvAll 0 rs.length)) ∧ Below w.heap.size w w' := by
  have hlen := h.len
  obtain ⟨i0, hi, hz0, hz1, hz2⟩ := info_parts info3
  obtain ⟨N, hN⟩ : ∃ N, N = rs.length := ⟨_, rfl⟩
  have HN := hide hN
  rw [← hN] at hl hlen ⊢
  have HR := hide h
  clear h hN
  go_enter Tryz.func114, Tryz.ntmps114
  go_wp2_with fail
  go_loopw [3, 4] (fun vo v wr => ∃ k : Nat, v = I k ∧ 0 ≤ k ∧ k ≤ N ∧ wr.ownsRow w.heap.size 3 1 vo (nums rs lvAll 0 k).length (ints (nums rs lvAll 0 k)) ∧ Below w.heap.size w wr) (fun _ v _ => N - (intOf v).toNat)
  case atStart => exact ⟨0, rfl, Nat.le_refl _, by omega, by rw [nums_zero]; exact World.ownsRow_nil _ _ _ _, Below.refl _ _⟩
  case round =>
    obtain ⟨k, rfl, hk1, hk, own, hbr⟩ := hrel
    have hR := (unhide HR).below hbr
    obtain ⟨g, cap, c0, _, _, _, hc⟩ := hR.cells
    rw [← unhide HN] at c0
    have hs4 := hbr.size
    by_cases hkn : k < N
    · obtain ⟨p, hp⟩ : ∃ p, rs[k]? = some p := ⟨_, List.getElem?_eq_getElem (by have := unhide HN; omega)⟩
      obtain ⟨d0, d1, d2, d3⟩ := hc k p hp
      have j1 : (k : Int) < (N : Int) := by omega
      have j0 : (0 : Int) ≤ (k : Int) := by omega
      have hil := nums_len rs lvAll 0 k
      cases hP : lvAll p with
      | true =>
        have own5 := own_keep (W' := wr.alloc (.cells #[I (k : Int)] 3)) own (fun k cur hc => Below.heap_alloc wr _ _ (lt_of_heap hc))
        obtain ⟨v', W5, hrun, own6, hgr, -, -⟩ := run_append_own_at (P := Tryz.prog) (wr.alloc (.cells #[I (k : Int)] 3)) w.heap.size 72 72 3 i0 (I 0) 1 8 Tryz.underlying72 hi hz0 hz1 hz2 rfl (by decide) _ _ _ own5 ⟨wr.heap.size, 0, none⟩ 1 1 [I (k : Int)] rfl (cell_one_new wr _ _) (by intro u hu; simp at hu; subst hu; rfl) (by unfold maxLen; omega) (by omega) (by simp; omega)
        have hb5 := below_grown (hbr.alloc hbr.size _) own5 hgr (by simp; omega)
        have HREL := hide (⟨k + 1, by go_num, by omega, by omega, by rw [nums_yes hp hk1 hP, List.length_append]; simpa [ints] using own6, hb5⟩ : ∃ k' : Nat, I ((k : Int) + 1) = I (k' : Int) ∧ 0 ≤ k' ∧ k' ≤ N ∧ W5.ownsRow w.heap.size 3 1 v' (nums rs lvAll 0 k').length (ints (nums rs lvAll 0 k')) ∧ Below w.heap.size w W5)
        obtain ⟨q', cp, rfl⟩ := own_form own6
        rw [show p.lv = true from hP] at d3
        clear own own5 own6 hgr hb5 hR hc hp hil
        go_wp2_with (at_builtin; refine wpList_append_eq rfl _ _ 72 rfl 72 rfl _ _ rfl rfl _ _ hrun ?_)
        go_roundw
        case rel => exact unhide HREL
        case measure => simp [intOf]; omega
      | false =>
        have HREL := hide (⟨k + 1, by go_num, by omega, by omega, by rw [nums_no hp hP]; exact own, hbr⟩ : ∃ k' : Nat, I ((k : Int) + 1) = I (k' : Int) ∧ 0 ≤ k' ∧ k' ≤ N ∧ wr.ownsRow w.heap.size 3 1 _ (nums rs lvAll 0 k').length (ints (nums rs lvAll 0 k')) ∧ Below w.heap.size w wr)
        rw [show p.lv = false from hP] at d3
        clear own hR hc hp hil
        go_wp2_with fail
        go_roundw
        case rel => exact unhide HREL
        case measure => simp [intOf]; omega
    · obtain rfl : k = N := by omega
      have HO := hide own
      have HB := hide hbr
      clear hR hc own hbr
      go_wp2_with fail
      go_ret
      exact ⟨_, rfl, unhide HO, unhide HB⟩
set_option maxHeartbeats 1000000 in
theorem rabove_any (base b : Nat) (rs : List Rm) (m : Int) (w : World) (h : Rs base w b rs) (hl : rs.length ≤ 1000) :
    Calls Tryz.prog 156 #[.pointer (some ⟨b, 0, none⟩), I m] w fun e w' => ∃ v, e = .returned v ∧ w'.ownsRow w.heap.size 3 1 v (nums rs (lvIn m) 1 rs.length).length (ints (nums rs (lvIn m) 1 rs.length)) ∧ Below w.heap.size w w' := by
  have hlen := h.len
  obtain ⟨i0, hi, hz0, hz1, hz2⟩ := info_parts info3
  obtain ⟨N, hN⟩ : ∃ N, N = rs.length := ⟨_, rfl⟩
  have HN := hide hN
  rw [← hN] at hl hlen ⊢
  have HR := hide h
  clear h hN
  go_enter Tryz.func156, Tryz.ntmps156
  go_wp2_with fail
  go_loopw [5, 6] (fun vo v wr => ∃ k : Nat, v = I k ∧ 1 ≤ k ∧ k ≤ N ∧ wr.ownsRow w.heap.size 3 1 vo (nums rs (lvIn m) 1 k).length (ints (nums rs (lvIn m) 1 k)) ∧ Below w.heap.size w wr) (fun _ v _ => N - (intOf v).toNat)
  case atStart => exact ⟨1, rfl, Nat.le_refl _, by omega, by rw [nums_zero]; exact World.ownsRow_nil _ _ _ _, Below.refl _ _⟩
  case round =>
    obtain ⟨k, rfl, hk1, hk, own, hbr⟩ := hrel
    have hR := (unhide HR).below hbr
    obtain ⟨g, cap, c0, _, _, _, hc⟩ := hR.cells
    rw [← unhide HN] at c0
    have hs4 := hbr.size
    by_cases hkn : k < N
    · obtain ⟨p, hp⟩ : ∃ p, rs[k]? = some p := ⟨_, List.getElem?_eq_getElem (by have := unhide HN; omega)⟩
      obtain ⟨d0, d1, d2, d3⟩ := hc k p hp
      have j1 : (k : Int) < (N : Int) := by omega
      have j0 : (0 : Int) ≤ (k : Int) := by omega
      have hil := nums_len rs (lvIn m) 1 k
      cases hP : (lvIn m) p with
      | true =>
        have own5 := own_keep (W' := wr.alloc (.cells #[I (k : Int)] 3)) own (fun k cur hc => Below.heap_alloc wr _ _ (lt_of_heap hc))
        obtain ⟨v', W5, hrun, own6, hgr, -, -⟩ := run_append_own_at (P := Tryz.prog) (wr.alloc (.cells #[I (k : Int)] 3)) w.heap.size 72 72 3 i0 (I 0) 1 8 Tryz.underlying72 hi hz0 hz1 hz2 rfl (by decide) _ _ _ own5 ⟨wr.heap.size, 0, none⟩ 1 1 [I (k : Int)] rfl (cell_one_new wr _ _) (by intro u hu; simp at hu; subst hu; rfl) (by unfold maxLen; omega) (by omega) (by simp; omega)
        have hb5 := below_grown (hbr.alloc hbr.size _) own5 hgr (by simp; omega)
        have HREL := hide (⟨k + 1, by go_num, by omega, by omega, by rw [nums_yes hp hk1 hP, List.length_append]; simpa [ints] using own6, hb5⟩ : ∃ k' : Nat, I ((k : Int) + 1) = I (k' : Int) ∧ 1 ≤ k' ∧ k' ≤ N ∧ W5.ownsRow w.heap.size 3 1 v' (nums rs (lvIn m) 1 k').length (ints (nums rs (lvIn m) 1 k')) ∧ Below w.heap.size w W5)
        obtain ⟨q', cp, rfl⟩ := own_form own6
        have hq : p.lv = true ∧ p.am = m := by simpa [lvIn] using hP
        rw [hq.1] at d3
        have hm := hq.2
        rw [hm] at d0
        clear hm hq
        clear own own5 own6 hgr hb5 hR hc hp hil
        go_wp2_with (at_builtin; refine wpList_append_eq rfl _ _ 72 rfl 72 rfl _ _ rfl rfl _ _ hrun ?_)
        go_roundw
        case rel => exact unhide HREL
        case measure => simp [intOf]; omega
      | false =>
        have HREL := hide (⟨k + 1, by go_num, by omega, by omega, by rw [nums_no hp hP]; exact own, hbr⟩ : ∃ k' : Nat, I ((k : Int) + 1) = I (k' : Int) ∧ 1 ≤ k' ∧ k' ≤ N ∧ wr.ownsRow w.heap.size 3 1 _ (nums rs (lvIn m) 1 k').length (ints (nums rs (lvIn m) 1 k')) ∧ Below w.heap.size w wr)
        cases hv : p.lv with
        | false =>
          rw [hv] at d3
          clear own hR hc hp hil hP
          go_wp2_with fail
          go_roundw
          case rel => exact unhide HREL
          case measure => simp [intOf]; omega
        | true =>
          rw [hv] at d3
          have hm : ¬ p.am = m := by simpa [lvIn, hv] using hP
          clear own hR hc hp hil hP
          go_wp2_with fail
          go_roundw
          case rel => exact unhide HREL
          case measure => simp [intOf]; omega
    · obtain rfl : k = N := by omega
      have HO := hide own
      have HB := hide hbr
      clear hR hc own hbr
      go_wp2_with fail
      go_ret
      exact ⟨_, rfl, unhide HO, unhide HB⟩
end Go.Proofs.YtlngeaacjbdmhaaGreat.Mt

namespace Go.Proofs.YtlngeaacjbdmhaaGreat.Mt
end Go.Proofs.YtlngeaacjbdmhaaGreat.Mt

namespace Go.Proofs.YtlngeaacjbdmhaaGreat.Mt
open Go.RowKit
theorem abv_nil {es : Ents} {m : Int} : (abv es m).length = 0 ↔ any es (isM m) = false := by
  rw [any_false, abv, List.length_map, List.length_eq_zero_iff, List.filter_eq_nil_iff]
  simp
theorem unb_ok {B : Int} {t : T} (h : Wf B t) (m : Int) : unbE t.es m = 0 ↔ (m ≠ 0 ∧ rootIs t.es m = true ∧ (abv t.es m).length = 0) := by
  rw [abv_nil]
  constructor
  · intro hz
    obtain ⟨h1, h2⟩ := unbE_zero hz
    obtain ⟨p, hp, he⟩ := any_iff.1 h1
    have hn := h.num p hp
    simp [isN] at he
    exact ⟨by omega, by rw [rootIs, if_neg (by omega), h1], h2⟩
  · rintro ⟨h0, h1, h2⟩
    rw [rootIs, if_neg h0] at h1
    simp [unbE, h1, h2]
theorem unb_same {t : T} {m : Int} (hz : unbE t.es m ≠ 0) : t.unbind m = t := by rw [T.unbind, if_neg hz]
theorem bind_same {t : T} {am an nd : Int} (hz : bindE t.es am an ≠ 0) : t.bind am an nd = t := by rw [T.bind, if_neg hz]
def sm (t : T) (i : Nat) : Nat := (((lst t.es).take i).map fun k => (abv t.es k).length).sum
end Go.Proofs.YtlngeaacjbdmhaaGreat.Mt

namespace Go.Proofs.YtlngeaacjbdmhaaGreat.Mt
open Go.RowKit
structure RT (t : T) (rs : List Rm) : Prop where
  len : (rs.length : Int) = t.md + 1
  zero : rs[0]? = some ⟨0, 0, t.rt, true⟩
  live : ∀ p ∈ t.es, rs[p.n.toNat]? = some ⟨p.am, p.an, p.top, true⟩
  only : ∀ (i : Nat) (q : Rm), 1 ≤ i → rs[i]? = some q → q.lv = true → ∃ p ∈ t.es, p.n = (i : Int)
section
variable {B : Int} {t : T} {rs : List Rm}
theorem RT.new (r : Int) : RT ⟨r, 0, []⟩ [⟨0, 0, r, true⟩] := by
  refine ⟨by simp, rfl, by simp, fun i q h1 h2 => ?_⟩
  have := (List.getElem?_eq_some_iff.1 h2).1
  simp at this
  omega
theorem RT.is (h : RT t rs) (hw : Wf B t) (m : Int) : rIs rs m = rootIs t.es m := by
  unfold rootIs
  by_cases h0 : m = 0
  · subst h0
    simp [rIs, h.zero]
  · rw [if_neg h0]
    cases ha : any t.es (isN m) with
    | true =>
      obtain ⟨p, hp, he⟩ := any_iff.1 ha
      simp [isN] at he
      have h1 := h.live p hp
      have h2 := hw.num p hp
      rw [he] at h1
      simp [rIs, h1]
      omega
    | false =>
      unfold rIs
      by_cases hm : 0 ≤ m
      · cases hq : rs[m.toNat]? with
        | none => simp
        | some q =>
          cases hl : q.lv with
          | false => simp [hl]
          | true =>
            obtain ⟨p, hp, he⟩ := h.only m.toNat q (by omega) hq hl
            have := any_false.1 ha p hp
            simp [isN] at this
            omega
      · simp [hm]
theorem RT.over (h : RT t rs) (hw : Wf B t) {m n r : Int} (ho : Ov rs (lvAt m n) r) : r = if any t.es (isAt m n) then (fst t.es (isAt m n)).n else -1 := by
  cases ha : any t.es (isAt m n) with
  | true =>
    obtain ⟨f1, f2⟩ := fst_mem ha
    simp only [isAt, decide_eq_true_eq] at f2
    have hl := h.live _ f1
    have hn := hw.num _ f1
    simp only [if_true]
    rcases ho with ⟨rfl, hno⟩ | ⟨k, q, rfl, hk, hq, hP⟩
    · have := hno _ _ (by omega) hl
      simp [lvAt, f2.1, f2.2] at this
    · simp only [lvAt, Bool.and_eq_true, decide_eq_true_eq] at hP
      obtain ⟨p, hp, he⟩ := h.only k q hk hq hP.1
      have h2 := h.live p hp
      rw [he, Int.toNat_natCast, hq] at h2
      cases h2
      simp only [] at hP
      have : p = fst t.es (isAt m n) := by
        refine Classical.byContradiction fun hne => ?_
        have hpw := hw.one
        rcases List.mem_iff_getElem.1 hp with ⟨i, hi, ei⟩
        rcases List.mem_iff_getElem.1 f1 with ⟨j, hj, ej⟩
        rcases Nat.lt_trichotomy i j with hij | hij | hij
        · have := List.pairwise_iff_getElem.1 hpw i j hi hj hij
          rw [ei, ej] at this
          exact this ⟨hP.2.1.trans f2.1.symm, hP.2.2.trans f2.2.symm⟩
        · subst hij
          exact hne (ei.symm.trans ej)
        · have := List.pairwise_iff_getElem.1 hpw j i hj hi hij
          rw [ei, ej] at this
          exact this ⟨f2.1.trans hP.2.1.symm, f2.2.trans hP.2.2.symm⟩
      rw [← this]
      exact he.symm
  | false =>
    simp only [Bool.false_eq_true, if_false]
    rcases ho with ⟨rfl, hno⟩ | ⟨k, q, rfl, hk, hq, hP⟩
    · rfl
    · simp only [lvAt, Bool.and_eq_true, decide_eq_true_eq] at hP
      obtain ⟨p, hp, he⟩ := h.only k q hk hq hP.1
      have h2 := h.live p hp
      rw [he, Int.toNat_natCast, hq] at h2
      cases h2
      have := any_false.1 ha p hp
      simp only [isAt, decide_eq_false_iff_not] at this
      exact absurd hP.2 this
theorem RT.root (h : RT t rs) (hw : Wf B t) (m : Int) : (if rIs rs m then rNd rs m else 0) = rootTop t.rt t.es m := by
  rw [h.is hw]
  unfold rootIs rootTop
  by_cases h0 : m = 0
  · subst h0
    simp [rNd, h.zero]
  · rw [if_neg h0, if_neg h0]
    cases ha : any t.es (isN m) with
    | true =>
      obtain ⟨f1, f2⟩ := fst_mem ha
      simp only [isN, decide_eq_true_eq] at f2
      have hl := h.live _ f1
      rw [f2] at hl
      simp [rNd, hl]
    | false =>
      unfold any at ha
      cases hf : t.es.find? (isN m) with
      | none => simp [fst, hf]
      | some p => rw [hf] at ha; simp at ha
theorem rise_ext : ∀ {l m : List Int}, l.Pairwise (· < ·) → m.Pairwise (· < ·) → (∀ e, e ∈ l ↔ e ∈ m) → l = m
  | [], [], _, _, _ => rfl
  | [], b :: m, _, _, h => by have := (h b).2 (by simp); simp at this
  | a :: l, [], _, _, h => by have := (h a).1 (by simp); simp at this
  | a :: l, b :: m, hl, hm, h => by
    obtain ⟨l1, l2⟩ := List.pairwise_cons.1 hl
    obtain ⟨m1, m2⟩ := List.pairwise_cons.1 hm
    have hab : a = b := by
      rcases List.mem_cons.1 ((h a).1 (by simp)) with e | ha
      · exact e
      · rcases List.mem_cons.1 ((h b).2 (by simp)) with e | hb
        · exact e.symm
        · have := m1 a ha; have := l1 b hb; omega
    subst hab
    congr 1
    refine rise_ext l2 m2 fun e => ⟨fun he => ?_, fun he => ?_⟩
    · rcases List.mem_cons.1 ((h e).1 (List.mem_cons_of_mem _ he)) with e1 | e1
      · have := l1 e he; omega
      · exact e1
    · rcases List.mem_cons.1 ((h e).2 (List.mem_cons_of_mem _ he)) with e1 | e1
      · have := m1 e he; omega
      · exact e1
theorem nums_rise (rs : List Rm) (P : Rm → Bool) (lo k : Nat) : (nums rs P lo k).Pairwise (· < ·) := by
  rw [nums]
  refine List.pairwise_map.2 ((List.pairwise_lt_range.filter _).imp fun h => ?_)
  omega
theorem nums_mem {rs : List Rm} {P : Rm → Bool} {lo : Nat} {x : Int} : x ∈ nums rs P lo rs.length ↔ ∃ (i : Nat) (q : Rm), x = (i : Int) ∧ lo ≤ i ∧ rs[i]? = some q ∧ P q = true := by
  rw [nums, List.mem_map]
  constructor
  · rintro ⟨i, hi, rfl⟩
    rw [List.mem_filter] at hi
    obtain ⟨h1, h2⟩ := hi
    simp only [Bool.and_eq_true, decide_eq_true_eq] at h2
    cases hq : rs[i]? with
    | none => rw [hq] at h2; simp at h2
    | some q => rw [hq] at h2; exact ⟨i, q, rfl, h2.1, hq, h2.2⟩
  · rintro ⟨i, q, rfl, h1, h2, h3⟩
    refine ⟨i, List.mem_filter.2 ⟨List.mem_range.2 (List.getElem?_eq_some_iff.1 h2).1, ?_⟩, rfl⟩
    simp [h1, h2, h3]
theorem RT.list (h : RT t rs) (hw : Wf B t) : nums rs lvAll 0 rs.length = lst t.es := by
  refine rise_ext (nums_rise _ _ _ _) ?_ fun x => ?_
  · rw [lst]
    refine List.pairwise_cons.2 ⟨fun a ha => ?_, List.pairwise_map.2 hw.rise⟩
    obtain ⟨p, hp, rfl⟩ := List.mem_map.1 ha
    exact hw.num p hp
  · rw [nums_mem, lst, List.mem_cons, List.mem_map]
    constructor
    · rintro ⟨i, q, rfl, _, hq, hl⟩
      by_cases e : i = 0
      · subst e; exact .inl rfl
      · obtain ⟨p, hp, he⟩ := h.only i q (by omega) hq hl
        exact .inr ⟨p, hp, he⟩
    · rintro (rfl | ⟨p, hp, rfl⟩)
      · exact ⟨0, _, rfl, Nat.le_refl _, h.zero, rfl⟩
      · exact ⟨p.n.toNat, _, by have := hw.num p hp; omega, Nat.zero_le _, h.live p hp, rfl⟩
theorem RT.above (h : RT t rs) (hw : Wf B t) (m : Int) : nums rs (lvIn m) 1 rs.length = abv t.es m := by
  refine rise_ext (nums_rise _ _ _ _) ?_ fun x => ?_
  · rw [abv]
    exact List.pairwise_map.2 (hw.rise.filter _)
  · rw [nums_mem, abv, List.mem_map]
    constructor
    · rintro ⟨i, q, rfl, h1, hq, hP⟩
      simp only [lvIn, Bool.and_eq_true, decide_eq_true_eq] at hP
      obtain ⟨p, hp, he⟩ := h.only i q h1 hq hP.1
      have h2 := h.live p hp
      rw [he, Int.toNat_natCast, hq] at h2
      cases h2
      exact ⟨p, List.mem_filter.2 ⟨hp, by simpa [isM] using hP.2⟩, he⟩
    · rintro ⟨p, hp, rfl⟩
      obtain ⟨hp, hm⟩ := List.mem_filter.1 hp
      have hn := hw.num p hp
      exact ⟨p.n.toNat, _, by omega, by omega, h.live p hp, by simpa [lvIn, isM] using hm⟩
theorem RT.bind (h : RT t rs) (hw : Wf B t) {am an : Int} (nd : Int) (hz : bindE t.es am an = 0) : RT (t.bind am an nd) (rs ++ [⟨am, an, nd, true⟩]) := by
  have hp := hw.pos
  have hl := h.len
  rw [T.bind, if_pos hz]
  refine ⟨by simp; omega, ?_, fun p hp' => ?_, fun i q h1 h2 h3 => ?_⟩
  · rw [List.getElem?_append_left (by omega)]; exact h.zero
  · rcases List.mem_append.1 hp' with hp' | hp'
    · have := (hw.eld p hp').2
      have := hw.num p hp'
      rw [List.getElem?_append_left (by omega)]
      exact h.live p hp'
    · simp at hp'; subst hp'
      simp only []
      rw [List.getElem?_append_right (by omega), show (t.md + 1).toNat - rs.length = 0 by omega]
      rfl
  · by_cases e : i < rs.length
    · rw [List.getElem?_append_left e] at h2
      obtain ⟨p, q1, q2⟩ := h.only i q h1 h2 h3
      exact ⟨p, List.mem_append_left _ q1, q2⟩
    · have := (List.getElem?_eq_some_iff.1 h2).1
      simp at this
      exact ⟨⟨t.md + 1, nd, am, an⟩, by simp, by simp only []; omega⟩
theorem RT.unb (h : RT t rs) (hw : Wf B t) {m : Int} (hz : unbE t.es m = 0) : ∃ (j : Nat) (p : Rm), m = (j : Int) ∧ rs[j]? = some p ∧ RT (t.unbind m) (rs.set j { p with lv := false }) := by
  obtain ⟨h1, h2⟩ := unbE_zero hz
  obtain ⟨x, hx, he⟩ := any_iff.1 h1
  simp [isN] at he
  have hn := hw.num x hx
  have hl := h.live x hx
  rw [he] at hl
  refine ⟨m.toNat, _, by omega, hl, ?_⟩
  rw [T.unbind, if_pos hz]
  have hj : m.toNat < rs.length := (List.getElem?_eq_some_iff.1 hl).1
  refine ⟨by simpa using h.len, ?_, fun p hp => ?_, fun i q q1 q2 q3 => ?_⟩
  · rw [List.getElem?_set_ne (by omega)]; exact h.zero
  · obtain ⟨hp, hne⟩ := List.mem_filter.1 hp
    simp [isN] at hne
    have := hw.num p hp
    rw [List.getElem?_set_ne (by omega)]
    exact h.live p hp
  · by_cases e : i = m.toNat
    · subst e
      rw [List.getElem?_set_self hj] at q2
      cases q2
      simp at q3
    · rw [List.getElem?_set_ne (fun e' => e e'.symm)] at q2
      obtain ⟨p, r1, r2⟩ := h.only i q q1 q2 q3
      refine ⟨p, List.mem_filter.2 ⟨r1, ?_⟩, r2⟩
      simp [isN]
      omega
end
end Go.Proofs.YtlngeaacjbdmhaaGreat.Mt

namespace Go.Proofs.YtlngeaacjbdmhaaGreat.Mt
open Go.RowKit
attribute [local go_sem ↓] Go.wp_at_zero Go.wp_at_succ
theorem infoR : (Tryz.prog.info? 223).map (fun i => (i.zero, i.size, i.bytes)) = some (some (.agg #[I 0, I 0, I 0, .bool false]), 4, 32) := by kernel_rfl
structure Fq (base b : Nat) (w w' : World) : Prop where
  os : w'.os = w.os
  tape : w'.tape = w.tape
  output : w'.output = w.output
  size : w.heap.size ≤ w'.heap.size
  low : ∀ k, k < base → w'.heap[k]? = w.heap[k]?
  blk : ∀ (k : Nat) (o : Obj), w.heap[k]? = some o → k ≠ b → (∀ cur, o ≠ .cells cur 223 (0, 0)) → w'.heap[k]? = some o
theorem Fq.of_below {base b : Nat} {w w' : World} (h : Below w.heap.size w w') (hb : base ≤ w.heap.size) : Fq base b w w' :=
  ⟨h.os, h.tape, h.output, h.size, fun k hk => h.block k (by omega), fun k _ hk _ _ => (h.block k (lt_of_heap hk)).trans hk⟩
theorem Fq.trans {base b : Nat} {u v w : World} (h : Fq base b u v) (g : Fq base b v w) : Fq base b u w :=
  ⟨g.os.trans h.os, g.tape.trans h.tape, g.output.trans h.output, Nat.le_trans h.size g.size, fun k hk => (g.low k hk).trans (h.low k hk), fun k o h1 h2 h3 => g.blk k o (h.blk k o h1 h2 h3) h2 h3⟩
theorem Fq.below {base b : Nat} {w w' : World} (h : Fq base b w w') : Below base w w' := ⟨h.os, h.tape, h.output, h.size, h.low⟩
theorem Rs.base_le {base : Nat} {W : World} {b : Nat} {rs : List Rm} (h : Rs base W b rs) : base ≤ W.heap.size := by have := h.lt; have := h.kb; omega
set_option maxHeartbeats 400000 in
theorem rnew_any (r : Int) (w : World) :
    Calls Tryz.prog 97 #[I r] w fun e w' => e = .returned (.pointer (some ⟨w.heap.size + 1, 0, none⟩)) ∧ Rs w.heap.size w' (w.heap.size + 1) [⟨0, 0, r, true⟩] ∧ Below w.heap.size w w' := by
  go_enter Tryz.func97, Tryz.ntmps97
  go_wp2_with fail
  go_ret
  refine ⟨rfl, ⟨⟨some ⟨w.heap.size, 0, none⟩, 1, putAll _ _ (by simp), ⟨rfl, .inr ⟨w.heap.size, 1, _, rfl, Nat.le_refl _, (Below.heap_alloc _ _ _ (by simp)).trans (putAll _ _ rfl), Nat.le_refl _, by decide, rfl, rfl⟩⟩⟩, by omega, by simp⟩, ((Below.refl _ w).alloc (Nat.le_refl _) _).alloc (by simp) _⟩
theorem rpush {base : Nat} {X : World} {b : Nat} {rs : List Rm} (p : Rm) (L : Rs base X b rs) (hl : rs.length ≤ 1000) {a : Option Addr} {m cap : Nat} (a1 : X.cell? ⟨b, 0, none⟩ = some (.slice a m cap)) :
    ∃ (a' : Option Addr) (cap' : Nat) (W5 : World), (Builtin.append_ #[224, 224] 224 #[.slice a m cap, .slice (some ⟨X.heap.size, 0, none⟩) 1 1]).run Tryz.prog (X.alloc (.cells #[I p.am, I p.an, I p.nd, .bool p.lv] 223)) = .ok (.slice a' (m + 1) cap') W5 ∧
      W5.cell? ⟨b, 0, none⟩ = some (.slice a m cap) ∧ W5.frozen? ⟨b, 0, none⟩ = false ∧ Rs base (W5.setCell ⟨b, 0, none⟩ (.slice a' (m + 1) cap')) b (rs ++ [p]) ∧ Fq base b X (W5.setCell ⟨b, 0, none⟩ (.slice a' (m + 1) cap')) := by
  obtain ⟨i0, hi, hz0, hz1, hz2⟩ := info_parts infoR
  obtain ⟨a2, cap2, h1, own⟩ := L.hb
  have e1 : X.cell? ⟨b, 0, none⟩ = some (.slice a2 rs.length cap2) := by rw [cell_of h1]; rfl
  rw [a1] at e1
  simp only [Option.some.injEq, Value.slice.injEq] at e1
  obtain ⟨rfl, rfl, rfl⟩ := e1
  have own5 := own_keep (W' := X.alloc (.cells #[I p.am, I p.an, I p.nd, .bool p.lv] 223)) own (fun k cur hc => Below.heap_alloc X _ _ (lt_of_heap hc))
  obtain ⟨v', W5, hrun, own7, hgr, -, -⟩ := run_append_own_at (P := Tryz.prog) (X.alloc (.cells #[I p.am, I p.an, I p.nd, .bool p.lv] 223)) base 224 224 223 i0 _ 4 32 Tryz.underlying224 hi hz0 hz1 hz2 rfl (by decide) (.slice a rs.length cap) _ _ own5 ⟨X.heap.size, 0, none⟩ 1 1 (rrow p) rfl (by
    intro j u hj
    rw [Addr.add_lit, cell_of (putAll _ _ rfl)]
    simpa [rrow] using hj) (by intro u hu; simp [rrow] at hu; rcases hu with rfl | rfl | rfl | rfl <;> rfl) (by unfold maxLen; omega) (by omega) (by simp; have := L.base_le; omega)
  obtain ⟨a', cap', rfl⟩ := own_form own7
  have hbA : (X.alloc (.cells #[I p.am, I p.an, I p.nd, .bool p.lv] 223)).heap[b]? = some (.cells #[.slice a rs.length cap] 226) := (Below.heap_alloc _ _ _ L.lt).trans h1
  have hb5 : W5.heap[b]? = some (.cells #[.slice a rs.length cap] 226) := (hgr.block b (lt_of_heap hbA) (own_ne own5 hbA (by simp))).trans hbA
  have hself : ∀ j, j ≠ b → (W5.setCell ⟨b, 0, none⟩ (.slice a' (rs.length + 1) cap')).heap[j]? = W5.heap[j]? := fun j hj => Below.heap_setCell _ _ _ _ hj
  refine ⟨a', cap', W5, hrun, by rw [cell_of hb5]; rfl, frozen_of hb5 0, ⟨⟨a', cap', ?_, ?_⟩, L.kb, by simp⟩, ?_⟩
  · rw [heap_set hb5]; simp
  · rw [List.length_append, rowsOf_append]
    refine own_keep own7 fun j cur hc => hself j ?_
    rintro rfl
    rw [hb5] at hc
    simp at hc
  · have b1 : Below base X (X.alloc (.cells #[I p.am, I p.an, I p.nd, .bool p.lv] 223)) := ((Below.refl _ X).alloc (Nat.le_refl _) _).mono L.base_le
    have b2 := below_grown b1 own5 hgr (by simp; have := L.base_le; omega)
    refine ⟨b2.os, b2.tape, b2.output, by have := b2.size; simp [World.setCell]; omega, fun j hj => (hself j (by have := L.kb; omega)).trans (b2.block j hj), fun j o g1 g2 g3 => ?_⟩
    have hkA : (X.alloc (.cells #[I p.am, I p.an, I p.nd, .bool p.lv] 223)).heap[j]? = some o := (Below.heap_alloc _ _ _ (lt_of_heap g1)).trans g1
    rw [hself j g2, hgr.block j (lt_of_heap hkA) (own_ne own5 hkA g3), hkA]
section
variable {B : Int} {t : T} {rs : List Rm} {base b : Nat} {w : World}
theorem rbind_no (h : RT t rs) (hw : Wf B t) (hR : Rs base w b rs) (hl : rs.length ≤ 100) (am an nd k : Int) (hk : bindE t.es am an = k) (h0 : k ≠ 0) :
    Calls Tryz.prog 149 #[.pointer (some ⟨b, 0, none⟩), pv am an, I nd] w fun e w' => e = .returned (.tuple #[I 0, I k]) ∧ Below w.heap.size w w' := by
  obtain ⟨V, hV, hs, hx, hb⟩ : ∃ V, w.alloc (.cells #[I am, I an] 50) = V ∧ V.heap.size = w.heap.size + 1 ∧ V.heap[w.heap.size]? = some (.cells #[I am, I an] 50) ∧ Below w.heap.size w V := ⟨_, rfl, by simp, putAll _ _ rfl, below_alloc _ _⟩
  obtain ⟨v0, v1⟩ := cells2 hx
  have H1 := hide (ris_any base b rs am V (hR.below hb))
  have H2 := hide (over_any base b rs am an V (hR.below hb) (by omega))
  have H3 := hide (fun W (hB : Below V.heap.size V W) => rlist_any base b rs W ((hR.below hb).below hB) (by omega))
  have HO := hide (fun r (ho : Ov rs (lvAt am an) r) => h.over hw ho)
  rw [h.is hw] at H1
  rw [h.list hw] at H3
  have hlst : (lst t.es).length = 1 + t.es.length := by simp [lst]; omega
  have hnum := fun (ha : any t.es (isAt am an) = true) => hw.num _ (fst_mem ha).1
  unfold bindE at hk
  have HB := hide hb
  clear hR hb hx h hw
  unfold pv
  go_enter Tryz.func149, Tryz.ntmps149
  go_wp2_with fail
  refine (unhide H1).mono ?_
  rintro e w1 ⟨rfl, hw1⟩
  rw [hw1]
  clear hw1 H1
  cases hy1 : rootIs t.es am with
  | false =>
    rw [hy1] at hk
    obtain rfl : 1 = k := by simpa using hk
    clear H2 H3 HO hk h0 hy1 hnum
    go_wp2_with fail
    go_ret2
    exact ⟨rfl, unhide HB⟩
  | true =>
    rw [hy1] at hk
    go_wp2_with fail
    refine (unhide H2).mono ?_
    rintro e w2 ⟨⟨r, ho, rfl⟩, hB2⟩
    have hr := unhide HO r ho
    have HB2 := hide ((unhide HB).trans (hB2.mono (by omega)))
    cases hy2 : any t.es (isAt am an) with
    | true =>
      rw [hy2] at hr hk
      obtain rfl : 15 = k := by simpa using hk
      have hp : (0 : Int) ≤ r := by simp only [if_true] at hr; rw [hr]; have := hnum hy2; omega
      clear H3 HO hk h0 hy1 hy2 hr ho hB2 hnum
      go_wp2_with fail
      go_ret2
      exact ⟨rfl, unhide HB2⟩
    | false =>
      rw [hy2] at hr hk
      obtain rfl : r = -1 := by simpa using hr
      have hl8 : 8 ≤ 1 + (t.es.length : Int) := by
        refine Decidable.byContradiction fun h' => h0 ?_
        simp [h'] at hk
        exact hk.symm
      obtain rfl : 13 = k := by simpa [hl8] using hk
      have H3' := hide (unhide H3 w2 hB2)
      clear H3 HO hk h0 hy1 hy2 hr ho hnum v0 v1 hV
      go_wp2_with fail
      refine (unhide H3').mono ?_
      rintro e w3 ⟨v, rfl, own, hB3⟩
      obtain ⟨a, cp, rfl⟩ := own_form own
      have HB3 := hide ((unhide HB2).trans (hB3.mono (unhide HB2).size))
      have q8 : (8 : Int) ≤ ((lst t.es).length : Int) := by omega
      clear own hB3 hB2 H3'
      generalize (lst t.es).length = n at *
      go_wp2_with fail
      go_ret2
      exact ⟨rfl, unhide HB3⟩
end
end Go.Proofs.YtlngeaacjbdmhaaGreat.Mt

namespace Go.Proofs.YtlngeaacjbdmhaaGreat.Mt
open Go.RowKit
attribute [local go_sem ↓] Go.wp_at_zero Go.wp_at_succ
section
variable {B : Int} {t : T} {rs : List Rm} {base b : Nat} {w W : World}
set_option maxHeartbeats 1000000 in
theorem rbind_yes (h : RT t rs) (hw : Wf B t) (hR : Rs base w b rs) (hl : rs.length ≤ 100) (am an nd : Int) (hz : bindE t.es am an = 0) :
    Calls Tryz.prog 149 #[.pointer (some ⟨b, 0, none⟩), pv am an, I nd] w fun e w' => e = .returned (.tuple #[I (t.md + 1), I 0]) ∧ Rs base w' b (rs ++ [⟨am, an, nd, true⟩]) ∧ Fq base b w w' := by
  obtain ⟨V, hV, hs, hx, hb⟩ : ∃ V, w.alloc (.cells #[I am, I an] 50) = V ∧ V.heap.size = w.heap.size + 1 ∧ V.heap[w.heap.size]? = some (.cells #[I am, I an] 50) ∧ Below w.heap.size w V := ⟨_, rfl, by simp, putAll _ _ rfl, below_alloc _ _⟩
  obtain ⟨v0, v1⟩ := cells2 hx
  obtain ⟨z1, z2, z3⟩ := bindE_zero hz
  have hbase := hR.base_le
  have H1 := hide (ris_any base b rs am V (hR.below hb))
  have H2 := hide (over_any base b rs am an V (hR.below hb) (by omega))
  have H3 := hide (fun W (hB : Below V.heap.size V W) => rlist_any base b rs W ((hR.below hb).below hB) (by omega))
  have HR := hide (fun W (hB : Below V.heap.size V W) => (hR.below hb).below hB)
  have HO := hide (fun r (ho : Ov rs (lvAt am an) r) => h.over hw ho)
  rw [h.is hw, z1] at H1
  rw [h.list hw] at H3
  rw [z2] at HO
  have hlst : (lst t.es).length = 1 + t.es.length := by simp [lst]; omega
  have HLen := hide h.len
  have HB := hide hb
  have HX := hide hx
  obtain ⟨md1, hmd1⟩ : ∃ md1, md1 = t.md + 1 := ⟨_, rfl⟩
  rw [← hmd1] at HLen ⊢
  clear hR hb hx h hw z1 z2 hz hmd1
  unfold pv
  go_enter Tryz.func149, Tryz.ntmps149
  go_wp2_with fail
  refine (unhide H1).mono ?_
  rintro e w1 ⟨rfl, hw1⟩
  rw [hw1]
  clear hw1 H1
  go_wp2_with fail
  refine (unhide H2).mono ?_
  rintro e w2 ⟨⟨r, ho, rfl⟩, hB2⟩
  obtain rfl : r = -1 := by simpa using unhide HO r ho
  have H3' := hide (unhide H3 w2 hB2)
  have HB2 := hide hB2
  clear H3 HO ho v0 v1 hV hB2 H2
  go_wp2_with fail
  refine (unhide H3').mono ?_
  rintro e w3 ⟨v, rfl, own, hB3⟩
  obtain ⟨a0, cp0, rfl⟩ := own_form own
  have hBV := (unhide HB2).trans (hB3.mono (unhide HB2).size)
  have LX := unhide HR w3 hBV
  have qX := (hBV.block w.heap.size (by omega)).trans (unhide HX)
  have FX : Fq base b w w3 := Fq.of_below ((unhide HB).trans (hBV.mono (by omega))) hbase
  have q8 : ¬ (8 : Int) ≤ ((lst t.es).length : Int) := by omega
  obtain ⟨g, cap, c0, cf, _, _, _⟩ := LX.cells
  obtain ⟨a5, cap5, W5, hrun, d0, df, L5, F5⟩ := rpush ⟨am, an, nd, true⟩ (LX.below (W' := w3.drew) ⟨rfl, rfl, rfl, Nat.le_refl _, fun _ _ => rfl⟩) (by omega) (show w3.drew.cell? _ = _ from c0)
  obtain ⟨r0, r1⟩ := cells2 qX
  have r0d : w3.drew.cell? ⟨w.heap.size, 0, none⟩ = some (I am) := r0
  have r1d : w3.drew.cell? ⟨w.heap.size, 1, none⟩ = some (I an) := r1
  have c0d : w3.drew.cell? ⟨b, 0, none⟩ = _ := c0
  have c0a := cell_alloc c0 (.cells #[I am, I an, I nd, .bool true] 223)
  obtain ⟨g6, cap6, z0, _⟩ := L5.cells
  rw [List.length_append, List.length_cons, List.length_nil, Nat.zero_add] at z0
  have HL5 := hide L5
  have HF5 := hide ((FX.trans (Fq.of_below (w' := w3.drew) ⟨rfl, rfl, rfl, Nat.le_refl _, fun _ _ => rfl⟩ (by have := FX.size; omega))).trans F5)
  have el := unhide HLen
  have Hel : Hid ((rs.length : Int) = md1) := el
  have hmm : (rs.length : Int) ≤ 100 := by omega
  clear LX qX FX own hB3 hBV L5 F5 cf r0 r1 H3' HB2 HB HX HR HLen el c0
  generalize rs.length = m at *
  generalize (lst t.es).length = n at *
  go_wp2_with fail
  go_region_law (refine step_append_eq (by rfl) _ _ 224 (by rfl) 224 (by rfl) _ _ (by rfl) (by rfl) _ _ hrun ?_)
  all_goals
    clear hrun c0a c0d r0d r1d
    go_wp2_with fail
    go_ret2
    refine ⟨?_, unhide HL5, unhide HF5⟩
    rw [← unhide Hel]
    first
      | rfl
      | (simp; done)
      | (simp; omega)
theorem Rs.setLv (L : Rs base W b rs) {j : Nat} {p : Rm} (hp : rs[j]? = some p) : ∃ g cap, W.cell? ⟨b, 0, none⟩ = some (.slice (some ⟨g, 0, none⟩) rs.length cap) ∧ W.cell? ⟨g, j * 4 + 3, none⟩ = some (.bool p.lv) ∧ W.frozen? ⟨g, j * 4 + 3, none⟩ = false ∧
    Rs base (W.setCell ⟨g, j * 4 + 3, none⟩ (.bool false)) b (rs.set j { p with lv := false }) ∧ Fq base b W (W.setCell ⟨g, j * 4 + 3, none⟩ (.bool false)) := by
  obtain ⟨a, cap, h1, own⟩ := L.hb
  have own0 := own
  obtain ⟨hl0, ⟨e0, hz⟩ | ⟨g, cap', cur, e0, hgb, hgg, hcap, hcm, hcs, htk⟩⟩ := own
  · have := L.len; omega
  simp only [Value.slice.injEq] at e0
  obtain ⟨rfl, -, rfl⟩ := e0
  obtain ⟨_, _, _, r3⟩ := rrows_at rs j p hp
  have hj := (List.getElem?_eq_some_iff.1 hp).1
  have hbg : b ≠ g := by
    rintro rfl
    rw [h1] at hgg
    simp at hgg
  have hlen4 : (rowsOf rrow rs).length = rs.length * 4 := by rw [rowsOf_length rrow 4 rrow_length, Nat.mul_comm]
  have c3 : cur[j * 4 + 3]? = some (.bool p.lv) := by
    have hj2 := (List.getElem?_eq_some_iff.1 r3).1
    rw [← htk] at r3
    rw [List.getElem?_take_of_lt (by omega)] at r3
    simpa using r3
  have hset := heap_set hgg (j * 4 + 3) (.bool false)
  refine ⟨g, cap, by rw [cell_of h1]; rfl, by rw [cell_of hgg]; exact c3, frozen_of hgg _, ⟨⟨some ⟨g, 0, none⟩, cap, ?_, ?_, .inr ⟨g, cap, _, ?_, hgb, hset, ?_, hcm, by simpa using hcs, ?_⟩⟩, L.kb, by simpa using L.ne⟩, ?_⟩
  · rw [Below.heap_setCell _ _ _ _ hbg, List.length_set]; exact h1
  · rw [rowsOf_length rrow 4 rrow_length, List.length_set, Nat.mul_comm]
  · simp
  · simpa using hcap
  · rw [List.length_set, Array.toList_setIfInBounds, List.take_set, htk, show j * 4 + 3 = 4 * j + 3 by omega]
    exact rowsOf_set rrow 4 rrow_length rs j 3 p { p with lv := false } (.bool false) hp (by omega) rfl
  · refine ⟨rfl, rfl, rfl, by simp [World.setCell], fun k hk => Below.heap_setCell _ _ _ _ (by have := hgb; simp; omega), fun k o g1 g2 g3 => (Below.heap_setCell _ _ _ _ ?_).trans g1⟩
    rintro rfl
    rw [hgg] at g1
    exact g3 _ (Option.some.inj g1).symm
end
end Go.Proofs.YtlngeaacjbdmhaaGreat.Mt

namespace Go.Proofs.YtlngeaacjbdmhaaGreat.Mt
open Go.RowKit
attribute [local go_sem ↓] Go.wp_at_zero Go.wp_at_succ
section
variable {B : Int} {t : T} {rs : List Rm} {base b : Nat} {w : World}
theorem runbind_no (h : RT t rs) (hw : Wf B t) (hR : Rs base w b rs) (hl : rs.length ≤ 100) (m k : Int) (hk : unbE t.es m = k) (h0 : k ≠ 0) :
    Calls Tryz.prog 100 #[.pointer (some ⟨b, 0, none⟩), I m] w fun e w' => e = .returned (I k) ∧ Below w.heap.size w w' := by
  have H1 := hide (ris_any base b rs m w hR)
  have H2 := hide (rabove_any base b rs m w hR (by omega))
  rw [h.is hw] at H1
  rw [h.above hw] at H2
  by_cases m0 : m = 0
  · subst m0
    have ha : any t.es (isN 0) = false := any_false.2 fun q hq => by
      have := hw.num q hq
      simp [isN]; omega
    obtain rfl : 1 = k := by simpa [unbE, ha] using hk
    clear H1 H2 hR h hw hk ha
    go_enter Tryz.func100, Tryz.ntmps100
    go_wp2_with fail
    go_ret
    exact ⟨rfl, Below.refl _ _⟩
  · have e1 : rootIs t.es m = any t.es (isN m) := by rw [rootIs, if_neg m0]
    rw [e1] at H1
    have q0 : (m == 0) = false := by simp [m0]
    cases ha : any t.es (isN m) with
    | false =>
      rw [ha] at H1
      obtain rfl : 1 = k := by simpa [unbE, ha] using hk
      clear H2 hR h hw hk ha e1 h0
      go_enter Tryz.func100, Tryz.ntmps100
      go_wp2_with fail
      refine (unhide H1).mono ?_
      rintro e w1 ⟨rfl, hw1⟩
      rw [hw1]
      clear hw1 H1
      go_wp2_with fail
      go_ret
      exact ⟨rfl, Below.refl _ _⟩
    | true =>
      rw [ha] at H1
      have hb' : any t.es (isM m) = true := by
        cases hm : any t.es (isM m) with
        | true => rfl
        | false => exact absurd (by simpa [unbE, ha, hm] using hk.symm) h0
      obtain rfl : 15 = k := by simpa [unbE, ha, hb'] using hk
      have hpos : 0 < (abv t.es m).length := by
        have := mt abv_nil.1 (by rw [hb']; simp)
        omega
      clear hR h hw hk ha e1 h0 hb'
      go_enter Tryz.func100, Tryz.ntmps100
      go_wp2_with fail
      refine (unhide H1).mono ?_
      rintro e w1 ⟨rfl, hw1⟩
      rw [hw1]
      clear hw1 H1
      go_wp2_with fail
      refine (unhide H2).mono ?_
      rintro e w3 ⟨v, rfl, own, hB3⟩
      obtain ⟨a, cp, rfl⟩ := own_form own
      have HB3 := hide hB3
      have q8 : (0 : Int) < ((abv t.es m).length : Int) := by omega
      clear own hB3 H2 hpos
      generalize (abv t.es m).length = n at *
      go_wp2_with fail
      go_ret
      exact ⟨rfl, unhide HB3⟩
theorem runbind_yes (h : RT t rs) (hw : Wf B t) (hR : Rs base w b rs) (hl : rs.length ≤ 100) (m : Int) (hz : unbE t.es m = 0) :
    Calls Tryz.prog 100 #[.pointer (some ⟨b, 0, none⟩), I m] w fun e w' => e = .returned (I 0) ∧ (∃ rs', Rs base w' b rs' ∧ RT (t.unbind m) rs' ∧ rs'.length = rs.length) ∧ Fq base b w w' := by
  obtain ⟨z1, z2, z3⟩ := (unb_ok hw m).1 hz
  obtain ⟨j, p, rfl, hp, hRT⟩ := h.unb hw hz
  have H1 := hide (ris_any base b rs (j : Int) w hR)
  have H2 := hide (rabove_any base b rs (j : Int) w hR (by omega))
  rw [h.is hw, z2] at H1
  rw [h.above hw, z3] at H2
  have hj := (List.getElem?_eq_some_iff.1 hp).1
  have HS := hide (fun W (hB : Below w.heap.size w W) => (hR.below hB).setLv hp)
  have HRT := hide hRT
  have hbase := hR.base_le
  have q0 : ((j : Int) == 0) = false := by simpa using z1
  have j1 : (j : Int) < (rs.length : Int) := by omega
  have j0 : (0 : Int) ≤ (j : Int) := by omega
  clear hR h hw hz z2 z3 hRT
  obtain ⟨N, hN⟩ : ∃ N, N = rs.length := ⟨_, rfl⟩
  rw [← hN] at j1 HS
  have HN := hide hN
  clear hN
  go_enter Tryz.func100, Tryz.ntmps100
  go_wp2_with fail
  refine (unhide H1).mono ?_
  rintro e w1 ⟨rfl, hw1⟩
  rw [hw1]
  clear hw1 H1
  go_wp2_with fail
  refine (unhide H2).mono ?_
  rintro e w3 ⟨v, rfl, own, hB3⟩
  obtain ⟨a, cp, rfl⟩ := own_form own
  obtain ⟨g, cap, c0, c1, c2, L5, F5⟩ := unhide HS w3 hB3
  have HL5 := hide L5
  have HF5 := hide ((Fq.of_below hB3 hbase).trans F5)
  clear own hB3 H2 HS L5 F5
  go_wp2_with fail
  go_ret
  exact ⟨rfl, ⟨_, unhide HL5, unhide HRT, by simp⟩, unhide HF5⟩
end
end Go.Proofs.YtlngeaacjbdmhaaGreat.Mt

namespace Go.Proofs.YtlngeaacjbdmhaaGreat.Kr
open Go.RowKit
theorem toNat_of (x : Int) : ((BitVec.ofInt 64 x).toNat : Int) = x % 18446744073709551616 := by
  rw [BitVec.toNat_ofInt]
  omega
theorem wrap_small {n : Nat} (h : n < 9223372036854775808) : IntKind.i64.wrap (n : Int) = n := by
  simp only [IntKind.wrap, IntKind.bits, IntKind.signed]
  simp
  omega
theorem wrap_zero {n : Nat} (h : n < 18446744073709551616) : IntKind.i64.wrap (n : Int) = 0 ↔ n = 0 := by
  simp only [IntKind.wrap, IntKind.bits, IntKind.signed]
  simp
  split <;> omega
theorem and_mask (n k m : Nat) (h : m &&& (2 ^ k - 1) = m) : n &&& m = (n % 2 ^ k) &&& m := by
  rw [← Nat.and_two_pow_sub_one_eq_mod, Nat.and_assoc, Nat.and_comm (2 ^ k - 1) m, h]
def lo (x : Int) : Nat := (x % 8).toNat
theorem lo_lt (x : Int) : lo x < 8 := by unfold lo; omega
theorem lo_mod (x : Int) : (BitVec.ofInt 64 x).toNat % 8 = lo x := by
  have := toNat_of x
  unfold lo
  omega
theorem and_of (x : Int) (m : Nat) (hm : m < 1024) : bits .and .i64 x m = (((x % 1024).toNat &&& m : Nat) : Int) := by
  have h0 : m &&& (2 ^ 10 - 1) = m := by rw [Nat.and_two_pow_sub_one_eq_mod]; omega
  have h1 := toNat_of x
  have h2 : (BitVec.ofInt 64 x).toNat % 2 ^ 10 = (x % 1024).toNat := by omega
  have h3 : (BitVec.ofInt 64 (m : Int)).toNat = m := by have := toNat_of m; omega
  show IntKind.i64.wrap ((BitVec.ofInt 64 x &&& BitVec.ofInt 64 (m : Int)).toNat : Int) = _
  rw [BitVec.toNat_and, h3, and_mask _ 10 m h0, h2]
  apply wrap_small
  have : (x % 1024).toNat &&& m ≤ m := Nat.and_le_right
  omega
theorem and7 (x : Int) : bits .and .i64 x 7 = lo x := by
  rw [show (7 : Int) = ((7 : Nat) : Int) from rfl, and_of x 7 (by omega), and_mask _ 3 7 (by decide), show (7 : Nat) = 2 ^ 3 - 1 from rfl, Nat.and_two_pow_sub_one_eq_mod]
  unfold lo
  omega
def has (w m : Nat) : Bool := w &&& m == w
theorem bv_not (a b : BitVec 64) : a &&& ~~~b = 0#64 ↔ a &&& b = a := by
  constructor
  · intro h
    ext i hi
    have := congrArg (fun v => v.getLsbD i) h
    simp [BitVec.getLsbD_eq_getElem hi] at this
    simp
    exact this
  · intro h
    ext i hi
    have := congrArg (fun v => v.getLsbD i) h
    simp [BitVec.getLsbD_eq_getElem hi] at this
    simp
    exact this
theorem andNot_zero (w : Nat) (hw : w < 8) (b : Int) : (bits .andNot .i64 (w : Int) b == 0) = has w (lo b) := by
  have h1 := toNat_of (w : Int)
  have h3 : (BitVec.ofInt 64 (w : Int)).toNat = w := by omega
  have key : bits .andNot .i64 (w : Int) b = 0 ↔ w &&& lo b = w := by
    show IntKind.i64.wrap ((BitVec.ofInt 64 (w : Int) &&& ~~~BitVec.ofInt 64 b).toNat : Int) = 0 ↔ _
    rw [wrap_zero (BitVec.isLt _)]
    have e1 : ((BitVec.ofInt 64 (w : Int) &&& ~~~BitVec.ofInt 64 b).toNat = 0) ↔ (BitVec.ofInt 64 (w : Int) &&& ~~~BitVec.ofInt 64 b) = 0#64 := by
      constructor
      · intro h; exact BitVec.eq_of_toNat_eq (by simpa using h)
      · intro h; rw [h]; rfl
    rw [e1, bv_not]
    have e2 : (BitVec.ofInt 64 (w : Int) &&& BitVec.ofInt 64 b).toNat = w &&& lo b := by
      rw [BitVec.toNat_and, h3, Nat.and_comm, and_mask _ 3 w (by rw [Nat.and_two_pow_sub_one_eq_mod]; omega), lo_mod, Nat.and_comm]
    constructor
    · intro h
      rw [← e2, h, h3]
    · intro h
      apply BitVec.eq_of_toNat_eq
      rw [e2, h, h3]
  rw [Bool.eq_iff_iff, beq_iff_eq, key]
  simp [has]
def cnt (cu cg m su sg : Int) : Int := if cu = 0 then 7 else if cu = su then m / 64 else if cg = sg then m / 8 else m
def may (cu cg m su sg w : Int) : Bool := has (lo w) (lo (cnt cu cg m su sg))
end Go.Proofs.YtlngeaacjbdmhaaGreat.Kr
