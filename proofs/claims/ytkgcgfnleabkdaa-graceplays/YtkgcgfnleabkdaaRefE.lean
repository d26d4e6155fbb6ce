/-
  The document's own Grace: the contract of Poll.
-/
import Derived.Test.YtkgcgfnleabkdaaRefD
namespace Go.Proofs.Ytkgcgfnleabkdaa
open Go.RowKit
attribute [local go_sem ↓] Go.wp_at_zero Go.wp_at_succ

def heldp (ps : List Pr) : List Pr := ps.filter fun y => !none8 y.1.on
theorem heldp_ws (ps : List Pr) : wsOfP (heldp ps) = held (wsOfP ps) := by simp [wsOfP, heldp, held, List.filter_map, Function.comp_def]
theorem heldp_len (ps : List Pr) : (heldp ps).length ≤ ps.length := List.length_filter_le _ _
theorem pfree_yes {ps : List Pr} {i : Nat} {y : Pr} (h : ps[i]? = some y) (he : none8 y.1.on = true) : free (wsOfP (ps.take (i + 1))) = free (wsOfP (ps.take i)) ++ [y.1] ∧ heldp (ps.take (i + 1)) = heldp (ps.take i) := by
  constructor <;> simp [free, heldp, wsOfP, List.take_add_one, h, he]
theorem pfree_no {ps : List Pr} {i : Nat} {y : Pr} (h : ps[i]? = some y) (he : none8 y.1.on = false) : heldp (ps.take (i + 1)) = heldp (ps.take i) ++ [y] ∧ free (wsOfP (ps.take (i + 1))) = free (wsOfP (ps.take i)) := by
  constructor <;> simp [free, heldp, wsOfP, List.take_add_one, h, he]
theorem pfree_len (ps : List Pr) : (free (wsOfP ps)).length ≤ ps.length := by have := free_len (wsOfP ps); simpa using this

theorem nd_map {ps : List Pr} (h : ∀ (i j : Nat) (x y : Wt) (g : Nat), ps[i]? = some (x, g) → ps[j]? = some (y, g) → i = j) : (ps.map (·.2)).Nodup := by
  unfold List.Nodup
  rw [List.pairwise_iff_getElem]
  intro i j hi hj hij e
  simp only [List.getElem_map] at e
  have hi' : i < ps.length := by simpa using hi
  have hj' : j < ps.length := by simpa using hj
  have := h i j ps[i].1 ps[j].1 ps[i].2 (by rw [List.getElem?_eq_getElem hi']) (by rw [List.getElem?_eq_getElem hj', e])
  omega
theorem map_nd {ps : List Pr} (h : (ps.map (·.2)).Nodup) : ∀ (i j : Nat) (x y : Wt) (g : Nat), ps[i]? = some (x, g) → ps[j]? = some (y, g) → i = j := by
  intro i j x y g hi hj
  have hil := (List.getElem?_eq_some_iff.1 hi).1
  exact (List.getElem?_inj (l := ps.map (·.2)) (by simpa using hil) h).1 (by simp [hi, hj])
theorem Rg.setWaits {base : Nat} {W : World} {rb rc n : Nat} {ss : List Int} {ps : List Pr} {a : Option Addr} {m cap : Nat} (h : Rg base W rb rc n ss ps) (own : W.ownsRow base 70 2 (.slice a m cap) m (rowsOf (Rrow n) (heldp ps))) (hm : (heldp ps).length = m) : Rg base (W.setCell ⟨rb, 1, none⟩ (.slice a m cap)) rb rc n ss (heldp ps) := by
  obtain ⟨a0, cap0, h1, h2⟩ := h.hb
  subst hm
  have ne : ∀ {k' : Nat} {cur : Array Value} {t : TypeId}, W.heap[k']? = some (.cells cur t (0, 0)) → t ≠ 67 → k' ≠ rb := by
    rintro k' cur t h3 h4 rfl
    rw [h1] at h3
    simp at h3
    exact h4 h3.2.symm
  have sub : (heldp ps).Sublist ps := List.filter_sublist
  refine ⟨⟨a, cap, ?_, own_keep own fun k cur hc => Below.heap_setCell _ _ _ _ (ne hc (by decide))⟩, (Below.heap_setCell _ _ _ _ (Ne.symm h.nb)).trans h.hc, h.len, h.lo, h.hi, h.kb, h.kc, fun i x g hi => ?_, map_nd ((sub.map _).nodup (nd_map h.nd)), fun y hy => h.up y (sub.subset hy)⟩
  · rw [heap_set h1]; simp
  · obtain ⟨j, hj⟩ := List.mem_iff_getElem?.1 (sub.subset (List.mem_of_getElem? hi))
    obtain ⟨q1, q2⟩ := h.wh j x g hj
    exact ⟨(Below.heap_setCell _ _ _ _ (ne q1 (by decide))).trans q1, q2⟩

set_option maxRecDepth 100000 in
set_option maxHeartbeats 1000000 in
theorem rpoll (base rb rc n : Nat) (ss : List Int) (ps : List Pr) (w : World) (hG : Rg base w rb rc n ss ps) (hws : ps.length ≤ 16) :
    Calls Try.prog 23 #[.pointer (some ⟨rb, 0, none⟩)] w fun e w' => ∃ v, e = .returned v ∧ w'.ownsRow w.heap.size 2 1 v (free (wsOfP ps)).length (ints (idsOf (free (wsOfP ps)))) ∧ Rg base w' rb rc n ss (heldp ps) ∧ RFr base rb rc w w' := by
  have HG := hide hG
  obtain ⟨a, cap, h0, h1, hf, hg, ho⟩ := hG.cells
  obtain ⟨m, hm⟩ : ∃ m, ps.length = m := ⟨_, rfl⟩
  rw [hm] at h1 hws
  have HM := hide hm
  have hbs := hG.base_le
  have hbl := hG.lt
  clear hG ho h0 hm
  go_enter Try.func23, Try.ntmps23
  go_wp2_with fail
  go_loopw [5, 3, 4] (fun i vo vl wr => ∃ k : Nat, k ≤ m ∧ i = .int .i64 k ∧ wr.ownsRow w.heap.size 2 1 vo (free (wsOfP (ps.take k))).length (ints (idsOf (free (wsOfP (ps.take k))))) ∧ wr.ownsRow w.heap.size 70 2 vl (heldp (ps.take k)).length (rowsOf (Rrow n) (heldp (ps.take k))) ∧ Below w.heap.size w wr) (fun i _ _ _ => m - (intOf i).toNat)
  case atStart => exact ⟨0, Nat.zero_le _, rfl, World.ownsRow_nil _ _ _ _, World.ownsRow_nil _ _ _ _, Below.refl _ _⟩
  case round =>
    obtain ⟨k, hk, rfl, ow1, ow2, hB1⟩ := hrel
    clear h1 hf hg
    have hG1 := (unhide HG).below hB1
    obtain ⟨a2, cap2, h0, h1, hf, hg, ho⟩ := hG1.cells
    rw [unhide HM] at h1
    by_cases hkn : k < m
    · have j1 : (k : Int) < (m : Int) := by omega
      have j0 : (0 : Int) ≤ (k : Int) := by omega
      have j16 : (k : Int) < 16 := by omega
      obtain ⟨⟨x, g⟩, hx⟩ : ∃ y, ps[k]? = some y := ⟨_, List.getElem?_eq_getElem (by rw [unhide HM]; exact hkn)⟩
      obtain ⟨bb, rfl, c1, c2, _⟩ := rg_at ho hx
      obtain ⟨hgg, hgb⟩ := hG1.wh k x g hx
      have hr8 := rises_eight hG1.hi (hG1.up (x, g) (List.mem_of_getElem? hx))
      have HC := hide (some_any x.on g n hG1.hi wr hgg)
      have HR8 := hide hr8
      have hlt := List.length_take_le k ps
      have HX := hide hx
      have HO1 := hide ow1
      have HO2 := hide ow2
      have HG1 := hide hG1
      have HB1 := hide hB1
      clear hgg hr8 hx ow1 ow2 hG1 ho h0
      go_wp2_with fail
      refine (unhide HC).mono ?_
      rintro e w2 ⟨v2, rfl, own2, B2⟩
      obtain ⟨av, cv, rfl⟩ := own_form own2
      have hs2 := B2.size
      have hs1 := (unhide HB1).size
      have o1 := own_below B2 (unhide HO1)
      have o2 := own_below B2 (unhide HO2)
      have hB2 := (unhide HB1).trans (B2.mono hs1)
      have hG2 := (unhide HG1).below B2
      have c1' := (World.cell?_of_block (a := ⟨bb, k * 2, none⟩) (B2.block bb (cell_lt c1))).trans c1
      have c2' := (World.cell?_of_block (a := ⟨bb, k * 2 + 1, none⟩) (B2.block bb (cell_lt c2))).trans c2
      have h1' := (World.cell?_of_block (a := ⟨rb, 1, none⟩) (B2.block rb (cell_lt h1))).trans h1
      clear own2 HC h1 hf hg c1 c2 B2 HO1 HO2 HG1
      have hx := unhide HX
      cases he : none8 x.on
      · have hz : ¬ (rises x.on 8).length = 0 := fun e => by have := (none8_rises x.on).2 e; rw [he] at this; simp at this
        rw [unhide HR8]
        obtain ⟨q, hq⟩ : ∃ q, (rises x.on 8).length = q := ⟨_, rfl⟩
        rw [hq] at hz ⊢
        have hz2 : ¬ (q : Int) = 0 := by omega
        obtain ⟨e1, e2⟩ := pfree_no hx he
        have hl2 := heldp_len (ps.take k)
        obtain ⟨i0, hi, hz0, hz1, hz2'⟩ := info_parts info70
        have own5 := own_keep (W' := w2.alloc (.cells #[.int .i64 x.id, .slice (some ⟨g, 0, none⟩) n n] 70)) o2 (fun k cur hc => Below.heap_alloc _ _ _ (lt_of_heap hc))
        have HB := hide (hB2.alloc (by omega) (.cells #[.int .i64 x.id, .slice (some ⟨g, 0, none⟩) n n] 70))
        have HO1 := hide o1
        have HO2 := hide o2
        have HE1 := hide e1
        have HE2 := hide e2
        clear o1 o2 hB2 hG2 hx e1 e2 hz hq
        generalize heldp (ps.take k) = qs at *
        go_wp2_with (first
          | (at_builtin; refine wpList_append_own _ rfl _ _ 65 rfl w.heap.size 70 i0 (.agg #[.int .i64 0, .slice none 0 0]) 2 32 Try.underlying65 hi hz0 hz1 hz2' rfl (by decide) _ _ _ rfl own5 ⟨w2.heap.size, 0, none⟩ 1 1 (Rrow n (x, g)) rfl rfl ?c1 ?c2 ?c3 ?c4 ?c5 ?_))
        case c1 => exact cells_new w2 (Rrow n (x, g)) 70
        case c2 => intro u hu; simp [Rrow] at hu; rcases hu with rfl | rfl <;> rfl
        case c3 => unfold maxLen; omega
        case c4 => omega
        case c5 => simp; omega
        intro v' w5 own6 hgr _
        have o15 : w5.ownsRow w.heap.size 2 1 _ _ _ := own_keep (unhide HO1) fun k cur hc => (grown_keep (unhide HO2) hgr hc (by simp)).trans hc.symm
        have HO6 := hide own6
        have HO15 := hide o15
        have HB6 := hide (below_grown (unhide HB) own5 hgr)
        clear own6 hgr own5 o15
        go_wp2_with fail
        go_roundw
        case rel => exact ⟨k + 1, by omega, by go_num, by rw [unhide HE2]; exact unhide HO15, by rw [unhide HE1, rowsOf_append]; simpa [rowsOf] using unhide HO6, unhide HB6⟩
        case measure => simp [intOf]; omega
      · have hz := (none8_rises x.on).1 he
        rw [unhide HR8, hz]
        obtain ⟨e1, e2⟩ := pfree_yes hx he
        have hl2 := pfree_len (ps.take k)
        obtain ⟨i0, hi, hz0, hz1, hz2'⟩ := info_parts info2
        have own5 := own_keep (W' := w2.alloc (.cells #[.int .i64 x.id] 2)) o1 (fun k cur hc => Below.heap_alloc _ _ _ (lt_of_heap hc))
        have HB := hide (hB2.alloc (by omega) (.cells #[.int .i64 x.id] 2))
        have HO1 := hide o1
        have HO2 := hide o2
        have HE1 := hide e1
        have HE2 := hide e2
        clear o1 o2 hB2 hG2 hx e1 e2 hz
        generalize free (wsOfP (ps.take k)) = qs at *
        go_wp2_with (first
          | (at_builtin; refine wpList_append_own _ rfl _ _ 29 rfl w.heap.size 2 i0 (.int .i64 0) 1 8 Try.underlying29 hi hz0 hz1 hz2' rfl (by decide) _ _ _ rfl own5 ⟨w2.heap.size, 0, none⟩ 1 1 [.int .i64 x.id] rfl rfl ?c1 ?c2 ?c3 ?c4 ?c5 ?_))
        case c1 => exact cell_one_new _ _ _
        case c2 => intro u hu; simp at hu; subst hu; rfl
        case c3 => unfold maxLen; omega
        case c4 => omega
        case c5 => simp; omega
        intro v' w5 own6 hgr _
        have o25 : w5.ownsRow w.heap.size 70 2 _ _ _ := own_keep (unhide HO2) fun k cur hc => (grown_keep (unhide HO1) hgr hc (by simp)).trans hc.symm
        have HO6 := hide own6
        have HO25 := hide o25
        have HB6 := hide (below_grown (unhide HB) own5 hgr)
        clear own6 hgr own5 o25
        go_wp2_with fail
        go_roundw
        case rel => exact ⟨k + 1, by omega, by go_num, by rw [unhide HE1]; simpa [ints, idsOf] using unhide HO6, by rw [unhide HE2]; exact unhide HO25, unhide HB6⟩
        case measure => simp [intOf]; omega
    · obtain rfl : k = m := by omega
      rw [List.take_of_length_le (Nat.le_of_eq (unhide HM))] at ow1 ow2
      obtain ⟨av, cv, rfl⟩ := own_form ow2
      have G5 := hG1.setWaits (own_base ow2 hbs) rfl
      have own8 := own_keep (W' := wr.setCell ⟨rb, 1, none⟩ (.slice av (heldp ps).length cv)) ow1 (fun k' cur hc => Below.heap_setCell _ _ _ _ (by
        rintro rfl
        obtain ⟨_, _, hb', _⟩ := hG1.hb
        rw [hb'] at hc
        simp at hc))
      have F5 : RFr base rb rc w (wr.setCell ⟨rb, 1, none⟩ (.slice av (heldp ps).length cv)) := (RFr.of_below hB1 hbs).set (p := ⟨rb, 1, none⟩) (.inl rfl) hG1.kb hG1.kc _
      have HG5 := hide G5
      have HO8 := hide own8
      have HF5 := hide F5
      clear G5 own8 F5 ow1 ow2 hG1 ho h0
      generalize (heldp ps).length = m2 at *
      go_wp2_with fail
      go_ret
      exact ⟨_, rfl, unhide HO8, unhide HG5, unhide HF5⟩
end Go.Proofs.Ytkgcgfnleabkdaa
