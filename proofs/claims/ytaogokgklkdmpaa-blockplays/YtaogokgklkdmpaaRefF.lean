/-
  The document's pool: a file on its way; the contract of Cut.
-/
import Derived.Test.YtaogokgklkdmpaaRefD
namespace Go.Proofs.Ytaogokgklkdmpaa
open Go.RowKit Go.Maps

/-- A file on its way. -/
structure Tw (base : Nat) (W wr : World) (c : Nat) (bv : Value) (v : Value) (m : Nat) (byte : Nat → Int) (has : Nat → Bool) : Prop where
  hc : wr.heap[c]? = some (.cells (v :: bools has).toArray 68)
  hb : wr.ownsRow base 5 1 v m (lst byte 0 m)
  fr : Fr (c :: bv.ownBlock.toList) W wr
  nw : ∀ g, v.ownBlock = some g → bv.ownBlock = some g ∨ W.heap.size ≤ g
def lenAt (w : World) (c : Nat) : Nat := match w.cell? ⟨c, 0, none⟩ with | some (.slice _ n _) => n | _ => 0
theorem bools_set (h h' : Nat → Bool) (k : Nat) (b : Bool) (hk : k < 64) (e : ∀ i, i < 64 → h' i = if i = k then b else h i) (v : Value) : ((v :: bools h).toArray.setIfInBounds (1 + k) (.bool b)) = (v :: bools h').toArray := by
  apply Array.ext_getElem?
  intro i
  simp only [List.setIfInBounds_toArray, List.getElem?_toArray]
  rw [List.getElem?_set]
  cases i with
  | zero => simp
  | succ i =>
    simp only [List.getElem?_cons_succ, List.length_cons, bools_len]
    by_cases h2 : i < 64
    · rw [bools_get h h2, bools_get h' h2, e i h2]
      by_cases e2 : i = k
      · subst e2
        rw [if_pos (by omega), if_pos (by omega), if_pos rfl]
      · rw [if_neg (by omega), if_neg e2]
    · rw [if_neg (by omega), List.getElem?_eq_none (by rw [bools_len]; omega), List.getElem?_eq_none (by rw [bools_len]; omega)]
theorem own_base {W : World} {base base' : Nat} {e : TypeId} {v : Value} {n : Nat} {xs : List Value} (h : W.ownsRow base e 1 v n xs) (hb : base' ≤ base) : W.ownsRow base' e 1 v n xs := by
  obtain ⟨h1, h2 | ⟨g, cap, cur, rfl, h3, h4⟩⟩ := h
  · exact ⟨h1, .inl h2⟩
  · exact ⟨h1, .inr ⟨g, cap, cur, rfl, Nat.le_trans hb h3, h4⟩⟩
section
variable {base : Nat} {W wr : World} {c : Nat} {bv v : Value} {m : Nat} {byte : Nat → Int} {has : Nat → Bool}
theorem Tw.cells (T : Tw base W wr c bv v m byte has) : wr.cell? ⟨c, 0, none⟩ = some v ∧ (∀ k, k < 64 → wr.cell? ⟨c, 1 + k, none⟩ = some (.bool (has k))) ∧ ∀ i, wr.frozen? ⟨c, i, none⟩ = false := by
  refine ⟨by rw [cell_of T.hc]; rfl, fun k hk => ?_, frozen_of T.hc⟩
  rw [cell_of T.hc]
  simp only [List.getElem?_toArray]
  rw [Nat.add_comm, List.getElem?_cons_succ, bools_get has hk]
theorem Tw.ne (T : Tw base W wr c bv v m byte has) {g : Nat} (hg : v.ownBlock = some g) : g ≠ c := fun e => by
  obtain ⟨_, cur, e2⟩ := own_blk T.hb hg
  rw [e, T.hc] at e2
  simp at e2
/-- Another row for its bytes. -/
theorem Tw.row (T : Tw base W wr c bv v m byte has) {w1 : World} {v' : Value} {m' : Nat} {byte' : Nat → Int} (hc : w1.heap[c]? = wr.heap[c]?) (hb : w1.ownsRow base 5 1 v' m' (lst byte' 0 m')) (fr : Fr (c :: bv.ownBlock.toList) W w1) (nw : ∀ g, v'.ownBlock = some g → bv.ownBlock = some g ∨ W.heap.size ≤ g) :
    Tw base W (w1.setCell ⟨c, 0, none⟩ v') c bv v' m' byte' has := by
  have hc1 := hc.trans T.hc
  refine ⟨?_, own_keep hb fun g cur _ hg => Below.heap_setCell _ _ _ _ fun e => ?_, fr.set (.inl (by simp)) _, nw⟩
  · rw [heap_set hc1]
    simp
  · rw [show g = c from e, hc1] at hg
    simp at hg
theorem Tw.push (T : Tw base W wr c bv v m byte has) (h0 : byte m = 0) {v' : Value} {w1 : World} (hO : w1.ownsRow base 5 1 v' (m + 1) (lst byte 0 m ++ [U 0])) (hG : (wr.alloc (.cells #[U 0] 5)).grownBy w1 v.ownBlock) (hblk : v'.ownBlock = v.ownBlock ∨ v'.ownBlock = some (wr.heap.size + 1)) :
    Tw base W (w1.setCell ⟨c, 0, none⟩ v') c bv v' (m + 1) byte has := by
  have hsz := T.fr.size
  refine T.row ?_ ?_ ((T.fr.alloc _).grown hG fun b hb => ?_) fun g hg => ?_
  · rw [hG.block c (by have := lt_of_heap T.hc; simp; omega) (fun e => T.ne e.symm rfl), Below.heap_alloc _ _ _ (lt_of_heap T.hc)]
  · have := lst_push byte 0 m
    rw [Nat.zero_add, h0] at this
    rw [← this]
    exact hO
  · rcases T.nw b hb with h | h
    · exact .inl (by simp [h])
    · exact .inr h
  · rcases hblk with h | h
    · exact T.nw g (h.symm.trans hg)
    · right
      rw [h] at hg
      cases hg
      omega
theorem Tw.flag (T : Tw base W wr c bv v m byte has) {k : Nat} (hk : k < 64) (b : Bool) {has' : Nat → Bool} (e : ∀ i, i < 64 → has' i = if i = k then b else has i) : Tw base W (wr.setCell ⟨c, 1 + k, none⟩ (.bool b)) c bv v m byte has' := by
  refine ⟨?_, own_keep T.hb fun g cur hg _ => Below.heap_setCell _ _ _ _ fun e => T.ne hg e, T.fr.set (.inl (by simp)) _, T.nw⟩
  rw [heap_set T.hc, bools_set has has' k b hk e]
theorem Tw.put {g cap : Nat} (T : Tw base W wr c bv (.slice (some ⟨g, 0, none⟩) m cap) m byte has) {j : Nat} {y : Int} {byte' : Nat → Int} (e : ∀ i, i < m → byte' i = if i = j then y else byte i) : Tw base W (wr.setCell ⟨g, j, none⟩ (U y)) c bv (.slice (some ⟨g, 0, none⟩) m cap) m byte' has := by
  have hne := T.ne (g := g) rfl
  obtain ⟨h1, h2⟩ := T.hb.stored j (U y)
  refine ⟨(Below.heap_setCell _ _ _ _ (fun e => hne e.symm)).trans T.hc, ?_, T.fr.grown h2 fun b hb => ?_, T.nw⟩
  · have : lst byte' 0 m = (lst byte 0 m).set j (U y) := by
      apply List.ext_getElem?
      intro i
      rw [List.getElem?_set, lst_length, lst_get, lst_get, Nat.zero_add]
      by_cases e1 : j = i
      · subst e1
        rw [if_pos rfl]
        by_cases h2 : j < m
        · rw [if_pos h2, if_pos h2, e j h2, if_pos rfl]
        · rw [if_neg h2, if_neg h2]
      · rw [if_neg e1]
        by_cases h2 : i < m
        · rw [if_pos h2, if_pos h2, e i h2, if_neg (fun e2 => e1 e2.symm)]
        · rw [if_neg h2, if_neg h2]
    rw [this]
    exact h1
  · cases hb
    rcases T.nw g rfl with h | h
    · exact .inl (by simp [h])
    · exact .inr h
theorem Tw.dn (T : Tw base W wr c bv v m byte has) : Tw base W wr.drew c bv v m byte has := ⟨T.hc, T.hb, T.fr.drew, T.nw⟩
theorem Tw.congr (T : Tw base W wr c bv v m byte has) {m' : Nat} {byte' : Nat → Int} {has' : Nat → Bool} (hm : m' = m) (hb : ∀ i, i < m → byte' i = byte i) (hh : ∀ i, i < 64 → has' i = has i) : Tw base W wr c bv v m' byte' has' := by
  subst hm
  refine ⟨?_, ?_, T.fr, T.nw⟩
  · rw [bools_congr hh]
    exact T.hc
  · rw [lst_congr (f := byte') (g := byte) (b := 0) fun j hj => by rw [Nat.zero_add, hb j hj]]
    exact T.hb
theorem RF.tw {lim : Nat} {x : F} (h : RF base lim W c bv x) : Tw base W W c bv bv x.size x.byte x.has := ⟨h.hc, h.hb, Fr.refl _ _, fun _ hg => .inl hg⟩
end
theorem Tw.done {base lim n : Nat} {W wr : World} {q : Nat} {s s' : S} {Lv : Value} {fb : Nat → Nat} {bv : Nat → Value} (h : RI base lim n W q s Lv fb bv) {k : Nat} {x y : F} (hk : s.fs[k]? = some (some x)) {v : Value} (T : Tw base W wr (fb k) (bv k) v y.size y.byte y.has) (hy : y.Ok) (hs' : s'.fs = s.fs.set k (some y)) : Rq base wr.heap.size n wr q s' ∧ RFr base lim W wr := by
  refine h.turn hk T.fr (fun b hb => ?_) (v' := v) ⟨T.hc, T.hb, ⟨(h.hx k x hk).lc.1, lt_of_heap T.hc⟩, fun g hg => ?_, hy⟩ T.nw hs'
  · simp at hb
    exact hb
  · obtain ⟨_, cur, e⟩ := own_blk T.hb hg
    exact lt_of_heap e
/-- Bytes behind an empty slice: in a row of their own. -/
theorem app_row {w : World} {a : Option Addr} {n cap : Nat} {g : Nat → Int} (h : In (w.alloc (.cells #[] 5)) a n cap g) (hn : n ≤ 100000) : ∃ gm c w', (Builtin.append_ #[28, 28] 28 #[.slice (some ⟨w.heap.size, 0, none⟩) 0 0, .slice a n cap]).run Try.prog (w.alloc (.cells #[] 5)) = .ok (.slice (some ⟨gm, 0, none⟩) n c) w' ∧ w'.ownsRow w.heap.size 5 1 (.slice (some ⟨gm, 0, none⟩) n c) n (lst g 0 n) ∧ Below w.heap.size w w' := by
  obtain ⟨i0, hi, hz0, hz1, hz2⟩ := info_parts info5
  have h28 : Try.prog.underlying 28 = some (.slice 5) := Try.underlying28
  have hown : (w.alloc (.cells #[] 5)).ownsRow w.heap.size 5 1 (.slice (some ⟨w.heap.size, 0, none⟩) 0 0) 0 [] := World.ownsRow_lit w #[] 0 (Nat.le_refl _) (Nat.zero_le _) (by simp)
  have key : ∀ v' w', (Builtin.append_ #[28, 28] 28 #[.slice (some ⟨w.heap.size, 0, none⟩) 0 0, .slice a n cap]).run Try.prog (w.alloc (.cells #[] 5)) = .ok v' w' → w'.ownsRow w.heap.size 5 1 v' n (lst g 0 n) → (w.alloc (.cells #[] 5)).grownBy w' (some w.heap.size) → v' ≠ .slice none 0 0 →
      ∃ gm c w', (Builtin.append_ #[28, 28] 28 #[.slice (some ⟨w.heap.size, 0, none⟩) 0 0, .slice a n cap]).run Try.prog (w.alloc (.cells #[] 5)) = .ok (.slice (some ⟨gm, 0, none⟩) n c) w' ∧ w'.ownsRow w.heap.size 5 1 (.slice (some ⟨gm, 0, none⟩) n c) n (lst g 0 n) ∧ Below w.heap.size w w' := by
    intro v' w' hr ho hg hne
    rcases own_at ho with ⟨h1, _⟩ | ⟨gm, c, cur, rfl, _⟩
    · exact absurd h1 hne
    · exact ⟨gm, c, w', hr, ho, ⟨hg.os, hg.tape, hg.output, Nat.le_trans (by simp) hg.size, fun k hk => (hg.block k (by simp; omega) (by simp; omega)).trans (Below.heap_alloc _ _ _ hk)⟩⟩
  by_cases h0 : n = 0
  · subst h0
    refine key (.slice (some ⟨w.heap.size, 0, none⟩) 0 0) _ ?_ hown (World.grownBy.refl _ _) (by simp)
    cases a with
    | none => simp [Builtin.append_, run_underlying h28, sizeOf, typeInfo, hi, Builtin.lenOf, Builtin.firstCells, storeCells]
    | some ad => simp [Builtin.append_, run_underlying h28, sizeOf, typeInfo, hi, Builtin.lenOf, Builtin.firstCells, storeCells, loadCells, loadCellsFrom]
  · obtain ⟨sb, so, rfl, hb, _⟩ := h (by omega)
    obtain ⟨v', w', hr, ho, hg, hne, _⟩ := run_append_own_at (P := Try.prog) (w.alloc (.cells #[] 5)) w.heap.size 28 28 5 i0 (U 0) 1 1 h28 hi hz0 hz1 hz2 rfl (by decide) _ 0 [] hown ⟨sb, so, none⟩ n cap (lst g 0 n) (by simp [lst_length]) (row_src hb) (lst_one _ _ _) (by unfold maxLen; omega) (by omega) (by simp)
    refine key v' w' hr (by simpa using ho) hg (fun e => ?_)
    have := (hne.1 e).1
    simp at this
end Go.Proofs.Ytaogokgklkdmpaa
