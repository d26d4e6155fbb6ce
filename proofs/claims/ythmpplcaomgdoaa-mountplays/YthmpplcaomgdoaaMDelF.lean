/-
  The contract of slices.DeleteFunc over the mounts, where it is so of one of them.
-/
import Derived.Test.YthmpplcaomgdoaaMDel
import Derived.Lib.SliceRun
namespace Go.Proofs.Ythmpplcaomgdoaa.Mt
open Go.RowKit
attribute [local go_sem ↓] Go.wp_at_zero Go.wp_at_succ

/-- Those of the first j of which it is not so. -/
def kept (es : Ents) (P : Ld → Bool) (j : Nat) : Ents := (es.take j).filter fun p => !P p
theorem kept_yes {es : Ents} {P : Ld → Bool} {j : Nat} {p : Ld} (h : es[j]? = some p) (hp : P p = false) : kept es P (j + 1) = kept es P j ++ [p] := by
  rw [kept, kept, List.take_add_one, h]; simp [hp]
theorem kept_no {es : Ents} {P : Ld → Bool} {j : Nat} {p : Ld} (h : es[j]? = some p) (hp : P p = true) : kept es P (j + 1) = kept es P j := by
  rw [kept, kept, List.take_add_one, h]; simp [hp]
theorem kept_le (es : Ents) (P : Ld → Bool) (j : Nat) : (kept es P j).length ≤ j := by
  have := List.length_filter_le (fun p => !P p) (es.take j)
  simp [kept] at this ⊢
  omega
theorem kept_first {es : Ents} {P : Ld → Bool} {i : Nat} (hi : es.findIdx P = i) (hn : i < es.length) : kept es P (i + 1) = es.take i := by
  subst hi
  have h1 : P es[es.findIdx P] = true := List.findIdx_getElem (w := hn)
  rw [kept_no (List.getElem?_eq_getElem hn) h1, kept]
  rw [List.filter_eq_self]
  intro p hp
  obtain ⟨k, hk, rfl⟩ := List.mem_take_iff_getElem.1 hp
  have := List.not_of_lt_findIdx (xs := es) (p := P) (i := k) (by omega)
  simp [this]
/-- What lies while the mounts that stay move up. -/
structure DJ (base g n cap : Nat) (es : Ents) (P : Ld → Bool) (w W : World) (j : Nat) (ej : Ents) : Prop where
  len : ej.length = n
  own : W.ownsRow base 59 4 (.slice (some ⟨g, 0, none⟩) n cap) n (rowsOf row ej)
  lo : ∀ k, k < (kept es P j).length → ej[k]? = (kept es P j)[k]?
  hi : ∀ k, j ≤ k → ej[k]? = es[k]?
  fr : Fr [g] w W
theorem heap_setCells {b : Nat} {t : TypeId} : ∀ (vs : List Value) (o : Nat) (W : World) (cs : Array Value), W.heap[b]? = some (.cells cs t) → o + vs.length ≤ cs.size →
    ∃ cs' : Array Value, (W.setCells b o vs).heap[b]? = some (.cells cs' t) ∧ cs'.toList = cs.toList.take o ++ vs ++ cs.toList.drop (o + vs.length)
  | [], o, W, cs, h, _ => ⟨cs, h, by simp⟩
  | v :: r, o, W, cs, h, hl => by
    simp only [List.length_cons] at hl
    obtain ⟨cs', h1, h2⟩ := heap_setCells r (o + 1) (W.setCell ⟨b, o, none⟩ v) (cs.setIfInBounds o v) (heap_set h o v) (by simp; omega)
    refine ⟨cs', h1, ?_⟩
    have hlt : o < cs.toList.length := by simp; omega
    have e : (cs.setIfInBounds o v).toList = cs.toList.take o ++ v :: cs.toList.drop (o + 1) := by
      rw [Array.toList_setIfInBounds, List.set_eq_take_append_cons_drop, if_pos hlt]
    have hto : (cs.toList.take o).length = o := by rw [List.length_take]; omega
    rw [h2, e, List.take_append, List.drop_append, hto]
    have hdn : (cs.toList.take o).drop (o + 1 + r.length) = [] := List.drop_eq_nil_of_le (by omega)
    rw [List.take_of_length_le (l := cs.toList.take o) (by omega), hdn]
    rw [show o + 1 - o = 1 by omega, show o + 1 + r.length - o = r.length + 1 by omega, show o + (v :: r).length = o + 1 + r.length by simp; omega]
    simp
theorem fr_setCells (b : Nat) : ∀ (vs : List Value) (o : Nat) (W : World), Fr [b] W (W.setCells b o vs)
  | [], _, W => Fr.refl _ W
  | v :: r, o, W => ((Fr.refl [b] W).set (a := ⟨b, o, none⟩) (by simp) v).trans (fr_setCells b r (o + 1) _)
/-- The last of the row is cleared. -/
theorem clear_last {base g n cap : Nat} {ej : Ents} {W : World} (own : W.ownsRow base 59 4 (.slice (some ⟨g, 0, none⟩) n cap) n (rowsOf row ej)) (hn : ej.length = n) (h0 : 0 < n) :
    ∃ W1 : World, (∀ ty, (Builtin.clear_ #[55] ty #[.slice (some ⟨g, (n - 1) * 4, none⟩) 1 (cap - (n - 1))]).run Try.prog W = .ok (.tuple #[]) W1) ∧ W1.ownsRow base 59 4 (.slice (some ⟨g, 0, none⟩) (n - 1) cap) (n - 1) (rowsOf row (ej.take (n - 1))) ∧ Fr [g] W W1 := by
  obtain ⟨i0, hi0, hz0, hz1, hz2⟩ := info_parts infoL
  obtain ⟨hl0, ⟨e0, _⟩ | ⟨g', cap', cur, e0, hgb, hgg, hcap, hcm, hcs, htk⟩⟩ := own
  · simp at e0
  simp only [Value.slice.injEq, Option.some.injEq, Addr.mk.injEq] at e0
  obtain ⟨⟨rfl, -, -⟩, -, rfl⟩ := e0
  obtain ⟨cs2, d1, d2⟩ := heap_setCells (b := g) (t := 59) [I 0, I 0, I 0, I 0] ((n - 1) * 4) W cur hgg (by simp; omega)
  refine ⟨W.setCells g ((n - 1) * 4) [I 0, I 0, I 0, I 0], ?_, ⟨?_, .inr ⟨g, cap, cs2, rfl, hgb, d1, by omega, hcm, ?_, ?_⟩⟩, fr_setCells _ _ _ _⟩
  · intro ty
    have hst := run_storeCells_cells (P := Try.prog) g ((n - 1) * 4) [I 0, I 0, I 0, I 0] 0 W
      (fun j hj => by simp at hj; rw [cell_of hgg, Array.getElem?_eq_getElem (by omega)]; rfl) (fun j _ => frozen_of hgg _) (by intro v hv; simp at hv; rw [hv]; rfl)
    simp only [Nat.add_zero] at hst
    have hzc : (Builtin.zeroCells (Value.agg #[I 0, I 0, I 0, I 0]).cells 1).toList = [I 0, I 0, I 0, I 0] := by kernel_rfl
    simp [Builtin.clear_, run_underlying Try.underlying55, hzc, hst]
  · rw [rows_len]; simp; omega
  · have : cs2.toList.length = cap * 4 := by rw [d2]; simp; omega
    simpa using this
  · have l1 : (cur.toList.take ((n - 1) * 4)).length = (n - 1) * 4 := by simp; omega
    rw [d2, List.append_assoc, List.take_left' l1, rows_take, ← htk, List.take_take, show min ((n - 1) * 4) (n * 4) = (n - 1) * 4 by omega]
set_option maxRecDepth 100000 in
set_option maxHeartbeats 1000000 in
theorem delF_any (base g n cap : Nat) (es : Ents) (F x : Nat) (P : Ld → Bool) (w : World) (hn : es.length = n) (hown : w.ownsRow base 59 4 (.slice (some ⟨g, 0, none⟩) n cap) n (rowsOf row es)) (hl : n ≤ 1000) (hgx : g ≠ x) (hbx : x < w.heap.size)
    (hone : (kept es P n).length + 1 = n) (hany : es.findIdx P < n)
    (hE : ∀ args w, (callFunc F args).run Try.prog w = .ok (.enter F args) w)
    (hF : ∀ p W, W.heap[x]? = w.heap[x]? → Calls Try.prog F #[lv p, .pointer (some ⟨x, 0, none⟩)] W fun e W' => e = .returned (.bool (P p)) ∧ Below W.heap.size W W') :
    Calls Try.prog 32 #[.slice (some ⟨g, 0, none⟩) n cap, .func (.func F) #[] #[.pointer (some ⟨x, 0, none⟩)]] w fun e w' => e = .returned (.slice (some ⟨g, 0, none⟩) (n - 1) cap) ∧
      w'.ownsRow base 59 4 (.slice (some ⟨g, 0, none⟩) (n - 1) cap) (n - 1) (rowsOf row (kept es P n)) ∧ Fr [g] w w' := by
  obtain ⟨i, hi⟩ : ∃ i, es.findIdx P = i := ⟨_, rfl⟩
  rw [hi] at hany
  have HI := hide (idx_any base g n cap es F x P w hn hown hl i hi hany hE (fun p W hB => hF p W (hB.block x hbx)))
  have J0 : ∀ W, Below w.heap.size w W → DJ base g n cap es P w W (i + 1) es := fun W hB => by
    have hk := kept_first hi (by omega)
    exact ⟨hn, own_keep hown (fun k cur hc => hB.block k (lt_of_heap hc)), fun k hk' => by rw [hk] at hk' ⊢; rw [List.getElem?_take_of_lt]; simp at hk'; omega, fun _ _ => rfl, Fr.of_below hB⟩
  have HJ0 := hide J0
  have HF := hide hF
  have Hn := hide hn
  have Hk := hide (kept_first hi (by omega : i < es.length))
  clear hF J0 hown hn hi
  go_enter Try.func32, Try.ntmps32
  go_wp2_with fail
  refine (unhide HI).mono ?_
  rintro e w1 ⟨rfl, hB⟩
  have HJ := hide (unhide HJ0 w1 hB)
  clear HI HJ0 hB
  have j1 : ¬ (i : Int) = -1 := by omega
  go_wp2_with fail
  have j2 : ((i : Int) == -1) = false := by simp
  simp only [j2]
  go_loopw [5, 6] (fun vi vj wr => ∃ (j : Nat) (ej : Ents), j ≤ n ∧ vi = I ((kept es P j).length : Int) ∧ vj = I (j : Int) ∧ DJ base g n cap es P w wr j ej) (fun _ vj _ => n - (intOf vj).toNat)
  case atStart => exact ⟨i + 1, es, by omega, by rw [unhide Hk]; simp; have := unhide Hn; omega, by go_num, unhide HJ⟩
  case round =>
    clear HJ Hk
    obtain ⟨j, ej, hj, rfl, rfl, J⟩ := hrel
    have hkl := kept_le es P j
    by_cases hjn : j < n
    · have hje : j < es.length := by have := unhide Hn; omega
      obtain ⟨p, hp⟩ : ∃ p, es[j]? = some p := ⟨_, List.getElem?_eq_getElem hje⟩
      have hpe := (J.hi j (Nat.le_refl _)).trans hp
      obtain ⟨g', eg, c0, c1, c2, c3, _, hgl⟩ := own_at J.own hpe J.len
      simp only [Option.some.injEq, Addr.mk.injEq, and_true] at eg
      subst eg
      obtain ⟨W2, hW2⟩ : ∃ W2, wr.alloc (.cells #[I p.n, I p.top, I p.am, I p.an] 59) = W2 := ⟨_, rfl⟩
      have hm2 : W2.heap[wr.heap.size]? = some (.cells #[I p.n, I p.top, I p.am, I p.an] 59) := by rw [← hW2]; exact putAll _ _ rfl
      have hB2 : Below wr.heap.size wr W2 := by rw [← hW2]; exact below_alloc _ _
      obtain ⟨l0, l1, l2, l3⟩ := cells4 hm2
      have hxr : x < wr.heap.size := Nat.lt_of_lt_of_le hbx J.fr.size
      have HC := hide (unhide HF p W2 ((hB2.block x hxr).trans (J.fr.blk x hbx (by simp; exact fun h => hgx h.symm))))
      have q1 : (j : Int) < (n : Int) := by omega
      have q0 : (0 : Int) ≤ (j : Int) := by omega
      have HJ := hide J
      have Hp := hide hp
      have HB2 := hide hB2
      have Hm2 := hide hm2
      clear J hp hpe hje hB2 hm2 HF
      go_wp2_with fail
      refine (unhide HC).mono ?_
      rintro e w2 ⟨rfl, hB3⟩
      have hB4 := (unhide HB2).trans (hB3.mono (unhide HB2).size)
      have hm3 := (hB3.block _ (lt_of_heap (unhide Hm2))).trans (unhide Hm2)
      have J3 : DJ base g n cap es P w w2 j ej := ⟨(unhide HJ).len, own_keep (unhide HJ).own (fun k cur hc => hB4.block k (lt_of_heap hc)), (unhide HJ).lo, (unhide HJ).hi, (unhide HJ).fr.trans (Fr.of_below hB4)⟩
      have hgy : g ≠ wr.heap.size := by omega
      clear l0 l1 l2 l3 c0 c1 c2 c3 HC HJ HB2 Hm2 hB3 hB4 hW2
      cases hP : P p with
      | true =>
        have HN := hide (⟨j + 1, ej, by omega, by rw [kept_no (unhide Hp) hP], by go_num, ⟨J3.len, J3.own, fun k hk => by rw [kept_no (unhide Hp) hP] at hk ⊢; exact J3.lo k hk, fun k hk => J3.hi k (by omega), J3.fr⟩⟩ : ∃ (j' : Nat) (ej : Ents), j' ≤ n ∧ I ((kept es P j).length : Int) = I ((kept es P j').length : Int) ∧ I ((j : Int) + 1) = I (j' : Int) ∧ DJ base g n cap es P w w2 j' ej)
        clear J3 hm3 hP
        generalize (kept es P j).length = c at *
        go_wp2_with fail
        go_roundw
        case rel => exact unhide HN
        case measure => simp [intOf]; omega
      | false =>
        obtain ⟨q, hq⟩ : ∃ q, ej[(kept es P j).length]? = some q := ⟨_, List.getElem?_eq_getElem (by have := J3.len; omega)⟩
        obtain ⟨X1, X2, X3, X4, ⟨x1, x2, x3, x4⟩, ⟨c0, c1, c2, c3⟩, ⟨f0, f1, f2, f3⟩, own4, hfr, hsz⟩ := own_set4 (p := p) J3.own J3.len hq
        obtain ⟨l0, l1, l2, l3⟩ := cells4 hm3
        have hlk : (kept es P (j + 1)).length = (kept es P j).length + 1 := by rw [kept_yes (unhide Hp) hP]; simp
        have J4 : DJ base g n cap es P w X4 (j + 1) (ej.set (kept es P j).length p) := by
          refine ⟨by simp; exact J3.len, own4, fun k hk => ?_, fun k hk => ?_, J3.fr.trans hfr⟩
          · rw [hlk] at hk
            rw [kept_yes (unhide Hp) hP]
            by_cases e : k = (kept es P j).length
            · subst e
              rw [List.getElem?_set_self (by have := J3.len; omega)]
              simp
            · rw [List.getElem?_set_ne (fun h => e h.symm), List.getElem?_append_left (by omega)]
              exact J3.lo k (by omega)
          · rw [List.getElem?_set_ne (by omega)]
            exact J3.hi k (by omega)
        have HN := hide (⟨j + 1, _, by omega, by rw [hlk]; go_num, by go_num, J4⟩ : ∃ (j' : Nat) (ej : Ents), j' ≤ n ∧ I (((kept es P j).length : Int) + 1) = I ((kept es P j').length : Int) ∧ I ((j : Int) + 1) = I (j' : Int) ∧ DJ base g n cap es P w X4 j' ej)
        clear J3 J4 hm3 hP hlk own4 hfr hsz hq
        generalize (kept es P j).length = c at *
        have y1 : (c : Int) < (n : Int) := by omega
        have y0 : (0 : Int) ≤ (c : Int) := by omega
        go_wp2_with fail
        go_roundw
        case rel => exact unhide HN
        case measure => simp [intOf]; omega
    · obtain rfl : j = n := by omega
      obtain ⟨W1, hcl, ownc, hfc⟩ := clear_last J.own J.len (by omega)
      have ek : ej.take (j - 1) = kept es P j := by
        apply List.ext_getElem?
        intro k
        by_cases hk : k < j - 1
        · rw [List.getElem?_take_of_lt hk]
          exact J.lo k (by omega)
        · rw [List.getElem?_eq_none (by simp; omega), List.getElem?_eq_none (by omega)]
      rw [ek] at ownc
      have HO := hide ownc
      have HFR := hide (J.fr.trans hfc)
      have hcap : j ≤ cap := by
        obtain ⟨-, ⟨e0, _⟩ | ⟨_, _, _, e0, _, _, h, _⟩⟩ := J.own
        · simp at e0
        · simp at e0; omega
      have hlen : (kept es P j).length = j - 1 := by omega
      rw [hlen]
      have y1 : ((j - 1 : Nat) : Int) ≤ (j : Int) := by omega
      have y0 : (0 : Int) ≤ ((j - 1 : Nat) : Int) := by omega
      have e2 : j - (j - 1) = 1 := by omega
      have e3 : ¬ cap = j - 1 := by omega
      clear J ek ownc hfc hkl HF Hn hlen hone
      generalize hc : j - 1 = c at *
      have Hc := hide hc
      clear hc
      go_wp2_with fail
      go_ret
      rw [unhide Hc]
      exact ⟨rfl, unhide HO, unhide HFR⟩
end Go.Proofs.Ythmpplcaomgdoaa.Mt
