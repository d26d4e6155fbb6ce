/-
  The document's pool in its blocks; the contracts of of, Size, used, Used, Left.
-/
import Derived.Test.YtaogokgklkdmpaaSum
import Derived.Test.YtaogokgklkdmpaaKept
namespace Go.Proofs.Ytaogokgklkdmpaa
open Go.RowKit Go.Maps

def bools (h : Nat → Bool) : List Value := (List.range 64).map fun k => .bool (h k)
theorem bools_get (h : Nat → Bool) {k : Nat} (hk : k < 64) : (bools h)[k]? = some (.bool (h k)) := by simp [bools, hk]
theorem bools_len (h : Nat → Bool) : (bools h).length = 64 := by simp [bools]
theorem bools_congr {h h' : Nat → Bool} (e : ∀ k, k < 64 → h k = h' k) : bools h = bools h' := List.map_congr_left fun k hk => by rw [e k (List.mem_range.1 hk)]
/-- The document's file in its blocks. -/
structure RF (base lim : Nat) (W : World) (c : Nat) (bv : Value) (x : F) : Prop where
  hc : W.heap[c]? = some (.cells (bv :: bools x.has).toArray 68)
  hb : W.ownsRow base 5 1 bv x.size (lst x.byte 0 x.size)
  lc : base ≤ c ∧ c < lim
  lb : ∀ g, bv.ownBlock = some g → g < lim
  ok : x.Ok
def ptrV (fb : Nat → Nat) (i : Nat) : Option F → Value
  | none => .pointer none
  | some _ => P0 (fb i)
def ptrs (fs : List (Option F)) (fb : Nat → Nat) : List Value := fs.mapIdx (ptrV fb)
theorem ptrs_get (fs : List (Option F)) (fb : Nat → Nat) (i : Nat) : (ptrs fs fb)[i]? = (fs[i]?).map (ptrV fb i) := by simp [ptrs, List.getElem?_mapIdx]
theorem ptrs_len (fs : List (Option F)) (fb : Nat → Nat) : (ptrs fs fb).length = fs.length := by simp [ptrs]
structure RI (base lim n : Nat) (W : World) (q : Nat) (s : S) (Lv : Value) (fb : Nat → Nat) (bv : Nat → Value) : Prop where
  hq : W.heap[q]? = some (.cells #[I n, Lv] 64)
  hL : W.ownsRow base 65 1 Lv s.fs.length (ptrs s.fs fb)
  hx : ∀ i x, s.fs[i]? = some (some x) → RF base lim W (fb i) (bv i) x
  dc : ∀ i j x y, s.fs[i]? = some (some x) → s.fs[j]? = some (some y) → i ≠ j → fb i ≠ fb j ∧ ∀ g, (bv i).ownBlock = some g → (bv j).ownBlock ≠ some g
  lq : base ≤ q ∧ q < lim
  lL : ∀ g, Lv.ownBlock = some g → g < lim
  ll : base ≤ lim ∧ lim ≤ W.heap.size
def Rq (base lim n : Nat) (W : World) (q : Nat) (s : S) : Prop := ∃ Lv fb bv, RI base lim n W q s Lv fb bv
theorem own_at {W : World} {base : Nat} {e : TypeId} {v : Value} {n : Nat} {xs : List Value} (h : W.ownsRow base e 1 v n xs) : (v = .slice none 0 0 ∧ n = 0 ∧ xs = []) ∨ ∃ g cap cur, v = .slice (some ⟨g, 0, none⟩) n cap ∧ base ≤ g ∧ W.heap[g]? = some (.cells cur e) ∧ n ≤ cap ∧ cap ≤ maxLen ∧ cur.size = cap ∧ cur.toList.take n = xs := by
  rcases h with ⟨h1, ⟨h2, h3⟩ | ⟨g, cap, cur, h2, h3, h4, h5, h6, h7, h8⟩⟩
  · refine .inl ⟨h2, h3, ?_⟩
    subst h3
    exact List.eq_nil_of_length_eq_zero (by simpa using h1)
  · exact .inr ⟨g, cap, cur, h2, h3, h4, h5, h6, by simpa using h7, by simpa using h8⟩
theorem own_keep {W W' : World} {base : Nat} {e : TypeId} {v : Value} {n : Nat} {xs : List Value} (h : W.ownsRow base e 1 v n xs) (hk : ∀ g (cur : Array Value), v.ownBlock = some g → W.heap[g]? = some (.cells cur e) → W'.heap[g]? = W.heap[g]?) : W'.ownsRow base e 1 v n xs := by
  obtain ⟨h1, h2 | ⟨g, cap, cur, rfl, h3, h4, h5⟩⟩ := h
  · exact ⟨h1, .inl h2⟩
  · exact ⟨h1, .inr ⟨g, cap, cur, rfl, h3, (hk g cur rfl h4).trans h4, h5⟩⟩
theorem own_cell {W : World} {base : Nat} {e : TypeId} {v : Value} {n : Nat} {xs : List Value} (h : W.ownsRow base e 1 v n xs) {j : Nat} (hj : j < n) : ∃ g cap, v = .slice (some ⟨g, 0, none⟩) n cap ∧ base ≤ g ∧ W.cell? ⟨g, j, none⟩ = xs[j]? ∧ (∀ i, W.frozen? ⟨g, i, none⟩ = false) := by
  rcases own_at h with ⟨_, h2, _⟩ | ⟨g, cap, cur, h1, h2, h3, h4, _, h5, h6⟩
  · omega
  · refine ⟨g, cap, h1, h2, ?_, frozen_of h3⟩
    rw [cell_of h3, ← h6, List.getElem?_take, if_pos hj]
    simp
theorem own_val {W : World} {base : Nat} {e : TypeId} {v : Value} {n : Nat} {xs : List Value} (h : W.ownsRow base e 1 v n xs) : ∃ a cap, v = .slice a n cap ∧ n ≤ cap := by
  rcases own_at h with ⟨h1, h2, _⟩ | ⟨g, cap, cur, h1, _, _, h4, _⟩
  · exact ⟨none, 0, by rw [h1, h2], by omega⟩
  · exact ⟨_, cap, h1, h4⟩
section
variable {base lim n : Nat} {W W' : World} {q : Nat} {s : S} {Lv : Value} {fb : Nat → Nat} {bv : Nat → Value}
/-- The document's pool stays where what lies below lim of its kinds does. -/
theorem RI.keep (h : RI base lim n W q s Lv fb bv) (hs : W.heap.size ≤ W'.heap.size) (hk : ∀ (b : Nat) (cs : Array Value) (t : TypeId) (f : Nat × Nat), W.heap[b]? = some (.cells cs t f) → t = 64 ∨ t = 65 ∨ t = 68 ∨ t = 5 → W'.heap[b]? = W.heap[b]?) : RI base lim n W' q s Lv fb bv :=
  ⟨(hk _ _ _ _ h.hq (by decide)).trans h.hq, own_keep h.hL fun g cur _ hg => hk _ _ _ _ hg (by decide), fun i x hi => ⟨(hk _ _ _ _ (h.hx i x hi).hc (by decide)).trans (h.hx i x hi).hc, own_keep (h.hx i x hi).hb fun g cur _ hg => hk _ _ _ _ hg (by decide), (h.hx i x hi).lc, (h.hx i x hi).lb, (h.hx i x hi).ok⟩, h.dc, h.lq, h.lL, h.ll.1, Nat.le_trans h.ll.2 hs⟩
theorem RI.below (h : RI base lim n W q s Lv fb bv) (g : Below W.heap.size W W') : RI base lim n W' q s Lv fb bv := h.keep g.size fun b _ _ _ hb _ => g.block b (lt_of_heap hb)
theorem RI.mono (h : RI base lim n W q s Lv fb bv) {lim' : Nat} (h1 : lim ≤ lim') (h2 : lim' ≤ W.heap.size) : RI base lim' n W q s Lv fb bv :=
  ⟨h.hq, h.hL, fun i x hi => ⟨(h.hx i x hi).hc, (h.hx i x hi).hb, ⟨(h.hx i x hi).lc.1, by have := (h.hx i x hi).lc.2; omega⟩, fun g hg => by have := (h.hx i x hi).lb g hg; omega, (h.hx i x hi).ok⟩, h.dc, ⟨h.lq.1, by have := h.lq.2; omega⟩, fun g hg => by have := h.lL g hg; omega, by have := h.ll; omega, h2⟩
theorem Rq.below (h : Rq base lim n W q s) (g : Below W.heap.size W W') : Rq base lim n W' q s := let ⟨Lv, fb, bv, h⟩ := h; ⟨Lv, fb, bv, h.below g⟩
theorem Rq.mono (h : Rq base lim n W q s) {lim' : Nat} (h1 : lim ≤ lim') (h2 : lim' ≤ W.heap.size) : Rq base lim' n W q s := let ⟨Lv, fb, bv, h⟩ := h; ⟨Lv, fb, bv, h.mono h1 h2⟩
theorem Rq.nx (h : Rq base lim n W q s) {bs : Nat} (g : Nx bs W W') : Rq base lim n W' q s := let ⟨Lv, fb, bv, h⟩ := h; ⟨Lv, fb, bv, h.keep g.bel.size fun b cs t f hb ht => (g.oth b cs t f hb (by rcases ht with rfl | rfl | rfl | rfl <;> decide) (by rcases ht with rfl | rfl | rfl | rfl <;> decide)).trans hb.symm⟩
theorem RI.cells (h : RI base lim n W q s Lv fb bv) : W.cell? ⟨q, 0, none⟩ = some (I n) ∧ W.cell? ⟨q, 1, none⟩ = some Lv ∧ ∀ i, W.frozen? ⟨q, i, none⟩ = false :=
  ⟨by rw [cell_of h.hq]; rfl, by rw [cell_of h.hq]; rfl, frozen_of h.hq⟩
end
/-- Where a file lies. -/
def ofV (s : S) (fb : Nat → Nat) (f : Int) : Value := match s.get f with | none => .pointer none | some _ => P0 (fb (f.toNat - 1))
set_option maxHeartbeats 1000000 in
theorem of_any {base lim n : Nat} {W : World} {q : Nat} {s : S} {Lv : Value} {fb : Nat → Nat} {bv : Nat → Value} (h : RI base lim n W q s Lv fb bv) (f : Int) (hf : (kl f).wf = true) (hl : s.fs.length ≤ 1000000) :
    Calls Try.prog 35 #[P0 q, I f] W fun e w' => e = .returned (ofV s fb f) ∧ w' = W := by
  obtain ⟨c0, c1, cf⟩ := h.cells
  have hfb := wf_bounds hf
  by_cases h1 : f < 1
  · have e : ofV s fb f = .pointer none := by simp only [ofV, S.get]; rw [if_neg (by omega)]
    rw [e]
    clear h
    go_enter Try.func35, Try.ntmps35
    go_wp2_with fail
    go_ret
    exact ⟨rfl, rfl⟩
  · obtain ⟨a, cap, hLv, hcap⟩ := own_val h.hL
    obtain ⟨L, hL⟩ : ∃ L : Nat, L = s.fs.length := ⟨_, rfl⟩
    rw [hLv, ← hL] at c1
    by_cases h2 : (L : Int) < f
    · have e : ofV s fb f = .pointer none := by
        simp only [ofV, S.get]
        rw [if_pos (by omega), List.getElem?_eq_none (by omega)]
        rfl
      rw [e]
      replace hL := hide hL
      clear h hLv hcap
      go_enter Try.func35, Try.ntmps35
      go_wp2_with fail
      go_ret
      exact ⟨rfl, rfl⟩
    · obtain ⟨k, hk⟩ : ∃ k : Nat, f = (k : Int) + 1 := ⟨(f - 1).toNat, by omega⟩
      have hkL : k < s.fs.length := by omega
      obtain ⟨g, cap2, e1, _, hc, _⟩ := own_cell h.hL hkL
      rw [ptrs_get] at hc
      obtain ⟨o, ho⟩ : ∃ o, s.fs[k]? = some o := ⟨_, List.getElem?_eq_getElem hkL⟩
      rw [ho] at hc
      have e : ofV s fb f = ptrV fb k o := by
        simp only [ofV]
        rw [hk, get_nat ho]
        cases o with
        | none => rfl
        | some x => simp [ptrV]
      rw [e]
      obtain ⟨v, hv⟩ : ∃ v, v = ptrV fb k o := ⟨_, rfl⟩
      rw [e1, hL.symm] at hLv
      cases hLv
      rw [Option.map_some, ← hv] at hc
      rw [← hv]
      have k2 : (k : Int) < (L : Int) := by omega
      have k3 : ¬ ((k : Int) + 1 < 1) := by omega
      have k4 : ¬ ((L : Int) < (k : Int) + 1) := by omega
      have k5 : (k : Int) ≤ 1000000 := by omega
      have k6 : (0 : Int) ≤ (k : Int) := by omega
      subst hk
      replace hL := hide hL
      clear h hv e hcap e1 ho h1 h2
      go_enter Try.func35, Try.ntmps35
      go_wp2_with fail
      go_ret
      exact ⟨rfl, rfl⟩
end Go.Proofs.Ytaogokgklkdmpaa
