/-
  The document's pool: what its calls leave alone; the contracts of Drop and Make.
-/
import Derived.Test.YtaogokgklkdmpaaRefB
namespace Go.Proofs.Ytaogokgklkdmpaa
open Go.RowKit Go.Maps

/-- What a call of the document's pool leaves alone. -/
structure RFr (base lim : Nat) (W W' : World) : Prop where
  bel : Below base W W'
  hi : ∀ b, lim ≤ b → b < W.heap.size → W'.heap[b]? = W.heap[b]?
  mps : ∀ (b : Nat) (es : Array MapEntry) (k : Nat), W.heap[b]? = some (.map es k) → W'.heap[b]? = W.heap[b]?
  oth : ∀ (b : Nat) (cs : Array Value) (t : TypeId) (f : Nat × Nat), W.heap[b]? = some (.cells cs t f) → t ≠ 64 → t ≠ 65 → t ≠ 68 → t ≠ 5 → W'.heap[b]? = W.heap[b]?
theorem RFr.of_fr {base lim : Nat} {S : List Nat} {W W' : World} (h : Fr S W W') (hb : base ≤ W.heap.size) (hs : ∀ b ∈ S, base ≤ b ∧ b < lim ∧ ∃ (cs : Array Value) (t : TypeId) (f : Nat × Nat), W.heap[b]? = some (.cells cs t f) ∧ (t = 64 ∨ t = 65 ∨ t = 68 ∨ t = 5)) : RFr base lim W W' := by
  refine ⟨h.base hb fun b hb => (hs b hb).1, fun b h1 h2 => h.blk b h2 fun hS => by have := (hs b hS).2.1; omega, fun b es k e => h.blk b (lt_of_heap e) fun hS => ?_, fun b cs t f e h1 h2 h3 h4 => h.blk b (lt_of_heap e) fun hS => ?_⟩
  · obtain ⟨cs, t, f, e2, _⟩ := (hs b hS).2.2
    rw [e] at e2
    cases e2
  · obtain ⟨cs', t', f', e2, ht⟩ := (hs b hS).2.2
    rw [e] at e2
    cases e2
    rcases ht with rfl | rfl | rfl | rfl
    · exact h1 rfl
    · exact h2 rfl
    · exact h3 rfl
    · exact h4 rfl
theorem RFr.of_below {base lim : Nat} {W W' : World} (h : Below W.heap.size W W') (hb : base ≤ W.heap.size) : RFr base lim W W' := .of_fr (S := []) (.of_below h) hb (by simp)
theorem own_blk {W : World} {base : Nat} {e : TypeId} {v : Value} {n : Nat} {xs : List Value} (h : W.ownsRow base e 1 v n xs) {g : Nat} (hg : v.ownBlock = some g) : base ≤ g ∧ ∃ cur : Array Value, W.heap[g]? = some (.cells cur e) := by
  rcases own_at h with ⟨rfl, _⟩ | ⟨g', cap, cur, rfl, h2, h3, _⟩
  · cases hg
  · cases hg
    exact ⟨h2, cur, h3⟩
section
variable {base lim n : Nat} {W W' : World} {q : Nat} {s : S} {Lv : Value} {fb : Nat → Nat} {bv : Nat → Value}
/-- One file is turned. -/
theorem RI.turn (h : RI base lim n W q s Lv fb bv) {k : Nat} {x y : F} (hk : s.fs[k]? = some (some x)) {S' : List Nat} (FF : Fr S' W W') (hS : ∀ b ∈ S', b = fb k ∨ (bv k).ownBlock = some b) {v' : Value} (hy : RF base W'.heap.size W' (fb k) v' y)
    (hnew : ∀ g, v'.ownBlock = some g → (bv k).ownBlock = some g ∨ W.heap.size ≤ g) {s' : S} (hs' : s'.fs = s.fs.set k (some y)) :
    Rq base W'.heap.size n W' q s' ∧ RFr base lim W W' := by
  have hx := h.hx k x hk
  have hkl := (List.getElem?_eq_some_iff.1 hk).1
  have hll := h.ll
  have hsz := FF.size
  have hSk : ∀ (b : Nat) (cs : Array Value) (t : TypeId) (f : Nat × Nat), W.heap[b]? = some (.cells cs t f) → t ≠ 68 → t ≠ 5 → W'.heap[b]? = W.heap[b]? := fun b cs t f e h1 h2 => FF.blk b (lt_of_heap e) fun hb => by
    rcases hS b hb with rfl | hb2
    · rw [hx.hc] at e; cases e; exact h1 rfl
    · obtain ⟨_, cur, e2⟩ := own_blk hx.hb hb2
      rw [e2] at e; cases e; exact h2 rfl
  have hget : ∀ i z, s'.fs[i]? = some (some z) → (i = k ∧ z = y) ∨ (i ≠ k ∧ s.fs[i]? = some (some z)) := fun i z hz => by
    rw [hs'] at hz
    by_cases e : i = k
    · subst e
      rw [List.getElem?_set_self hkl] at hz
      cases hz
      exact .inl ⟨rfl, rfl⟩
    · rw [List.getElem?_set_ne (by omega)] at hz
      exact .inr ⟨e, hz⟩
  refine ⟨⟨Lv, fb, fun i => if i = k then v' else bv i, (hSk _ _ _ _ h.hq (by decide) (by decide)).trans h.hq, ?_, ?_, ?_, ⟨h.lq.1, by have := h.lq.2; omega⟩, fun g hg => by have := h.lL g hg; omega, by omega, Nat.le_refl _⟩, .of_fr FF (by omega) fun b hb => ?_⟩
  · have e : ptrs s'.fs fb = ptrs s.fs fb := by
      apply List.ext_getElem?
      intro i
      rw [ptrs_get, ptrs_get, hs']
      by_cases e : i = k
      · subst e
        rw [List.getElem?_set_self hkl, hk]
        rfl
      · rw [List.getElem?_set_ne (by omega)]
    have el : s'.fs.length = s.fs.length := by rw [hs']; simp
    rw [e, el]
    exact own_keep h.hL fun g cur _ hg => hSk _ _ _ _ hg (by decide) (by decide)
  · intro i z hz
    rcases hget i z hz with ⟨rfl, rfl⟩ | ⟨e, hz2⟩
    · simp only [if_true]
      exact hy
    · simp only [if_neg e]
      have hz3 := h.hx i z hz2
      have hd := h.dc i k z x hz2 hk e
      refine ⟨(FF.blk _ (lt_of_heap hz3.hc) fun hb => ?_).trans hz3.hc, own_keep hz3.hb fun g cur hg hc => FF.blk g (lt_of_heap hc) fun hb => ?_, ⟨hz3.lc.1, by have := hz3.lc.2; omega⟩, fun g hg => by have := hz3.lb g hg; omega, hz3.ok⟩
      · rcases hS _ hb with e2 | e2
        · exact hd.1 e2
        · obtain ⟨_, cur, e3⟩ := own_blk hx.hb e2
          have e4 := hz3.hc
          rw [e3] at e4
          simp at e4
      · rcases hS _ hb with e2 | e2
        · subst e2
          rw [hx.hc] at hc
          simp at hc
        · exact hd.2 g hg e2
  · intro i j z u hz hu hij
    rcases hget i z hz with ⟨rfl, rfl⟩ | ⟨e, hz2⟩
    · rcases hget j u hu with ⟨rfl, rfl⟩ | ⟨e2, hu2⟩
      · exact absurd rfl hij
      · simp only [if_true, if_neg e2]
        have hd := h.dc i j x u hk hu2 hij
        refine ⟨hd.1, fun g hg hg2 => ?_⟩
        rcases hnew g hg with h1 | h1
        · exact hd.2 g h1 hg2
        · have := (h.hx j u hu2).lb g hg2
          omega
    · rcases hget j u hu with ⟨rfl, rfl⟩ | ⟨e2, hu2⟩
      · simp only [if_true, if_neg e]
        have hd := h.dc i j z x hz2 hk hij
        refine ⟨hd.1, fun g hg hg2 => ?_⟩
        rcases hnew g hg2 with h1 | h1
        · exact hd.2 g hg h1
        · have := (h.hx i z hz2).lb g hg
          omega
      · simp only [if_neg e, if_neg e2]
        exact h.dc i j z u hz2 hu2 hij
  · rcases hS b hb with rfl | hb2
    · exact ⟨hx.lc.1, hx.lc.2, _, _, _, hx.hc, by decide⟩
    · obtain ⟨h1, cur, e2⟩ := own_blk hx.hb hb2
      exact ⟨h1, hx.lb b hb2, _, _, _, e2, by decide⟩
end
set_option maxHeartbeats 1000000 in
theorem rdrop_any {base lim n : Nat} {W : World} {q : Nat} {s : S} (h : Rq base lim n W q s) (f : Int) (hf : (kl f).wf = true) (hl : s.fs.length ≤ 1000000) :
    Calls Try.prog 20 #[P0 q, I f] W fun e w' => e = .returned (I (dropE s f)) ∧ Rq base w'.heap.size n w' q (dropS s f) ∧ RFr base lim W w' := by
  have h' := h
  obtain ⟨Lv, fb, bv, h⟩ := h
  cases e : s.get f with
  | none =>
    have he : ofV s fb f = .pointer none := by simp only [ofV, e]
    simp only [dropE, dropS, e]
    have hr := hide (h'.mono h.ll.2 (Nat.le_refl _))
    have hb := hide (RFr.of_below (base := base) (lim := lim) (Below.refl _ W) (by have := h.ll; omega))
    go_enter Try.func20, Try.ntmps20
    go_wp2_with fail
    refine (of_any h f hf hl).mono ?_
    rintro e w1 ⟨rfl, rfl⟩
    rw [he]
    go_wp2_with fail
    go_ret
    exact ⟨rfl, unhide hr, unhide hb⟩
  | some x =>
    have he : ofV s fb f = P0 (fb (f.toNat - 1)) := by simp only [ofV, e]
    simp only [dropE, dropS, e]
    obtain ⟨k1, k2⟩ := S.get_at e
    obtain ⟨k, hk⟩ : ∃ k : Nat, f = (k : Int) + 1 := ⟨(f - 1).toNat, by omega⟩
    have hkk : f.toNat - 1 = k := by omega
    rw [hkk] at k2 he
    have hkL := (List.getElem?_eq_some_iff.1 k2).1
    obtain ⟨g, cap, hLv, hbg, hc, hfz⟩ := own_cell h.hL hkL
    obtain ⟨c0, c1, cf⟩ := h.cells
    obtain ⟨L, hL⟩ : ∃ L : Nat, L = s.fs.length := ⟨_, rfl⟩
    have hown := h.hL
    rw [hLv] at hown
    rw [hLv, ← hL] at c1
    rw [ptrs_get, k2] at hc
    obtain ⟨hst, hgr⟩ := hown.stored k (.pointer none)
    have FF : Fr [g] W (W.setCell ⟨g, k, none⟩ (.pointer none)) := (Fr.refl _ W).set (by simp) _
    have hgl : g < lim := h.lL g (by rw [hLv]; rfl)
    obtain ⟨_, cur, hcur⟩ := own_blk h.hL (g := g) (by rw [hLv]; rfl)
    have hsz : (W.setCell ⟨g, k, none⟩ (.pointer none)).heap.size = W.heap.size := by simp [World.setCell]
    have hkeep : ∀ (b : Nat) (cs : Array Value) (t : TypeId) (f : Nat × Nat), W.heap[b]? = some (.cells cs t f) → t ≠ 65 → (W.setCell ⟨g, k, none⟩ (.pointer none)).heap[b]? = W.heap[b]? := fun b cs t f eb ht => FF.blk b (lt_of_heap eb) fun hb => by
      simp at hb
      subst hb
      rw [hcur] at eb
      cases eb
      exact ht rfl
    have fin : Rq base (W.setCell ⟨g, k, none⟩ (.pointer none)).heap.size n (W.setCell ⟨g, k, none⟩ (.pointer none)) q (s.put f none (s.left + x.used)) ∧ RFr base lim W (W.setCell ⟨g, k, none⟩ (.pointer none)) := by
      have hfs : (s.put f none (s.left + x.used)).fs = s.fs.set k none := by simp only [S.put]; rw [hkk]
      have hget : ∀ i z, (s.put f none (s.left + x.used)).fs[i]? = some (some z) → s.fs[i]? = some (some z) := fun i z hz => by
        rw [hfs] at hz
        by_cases e2 : i = k
        · subst e2
          rw [List.getElem?_set_self hkL] at hz
          cases hz
        · rwa [List.getElem?_set_ne (by omega)] at hz
      have hll := h.ll
      refine ⟨⟨Lv, fb, bv, (hkeep _ _ _ _ h.hq (by decide)).trans h.hq, ?_, fun i z hz => ?_, fun i j z u hz hu => h.dc i j z u (hget i z hz) (hget j u hu), ⟨h.lq.1, by have := h.lq.2; omega⟩, fun g' hg' => by have := h.lL g' hg'; omega, by omega, Nat.le_refl _⟩, .of_fr FF (by omega) fun b hb => ?_⟩
      · have e2 : ptrs (s.put f none (s.left + x.used)).fs fb = (ptrs s.fs fb).set k (.pointer none) := by
          apply List.ext_getElem?
          intro i
          rw [ptrs_get, hfs]
          by_cases e3 : i = k
          · subst e3
            rw [List.getElem?_set_self hkL, List.getElem?_set_self (by rw [ptrs_len]; exact hkL)]
            rfl
          · rw [List.getElem?_set_ne (by omega), List.getElem?_set_ne (by omega), ptrs_get]
        have e3 : (s.put f none (s.left + x.used)).fs.length = s.fs.length := by rw [hfs]; simp
        rw [e2, e3, hLv]
        exact hst
      · have hz3 := h.hx i z (hget i z hz)
        exact ⟨(hkeep _ _ _ _ hz3.hc (by decide)).trans hz3.hc, own_keep hz3.hb fun g' cur' _ hc' => hkeep _ _ _ _ hc' (by decide), ⟨hz3.lc.1, by have := hz3.lc.2; omega⟩, fun g' hg' => by have := hz3.lb g' hg'; omega, hz3.ok⟩
      · simp at hb
        subst hb
        exact ⟨hbg, hgl, _, _, _, hcur, by decide⟩
    have hc2 : W.cell? ⟨g, k, none⟩ = some (ptrV fb k (some x)) := hc
    have hfk := hfz k
    have z2 : (k : Int) < (L : Int) := by omega
    have z0 : (0 : Int) ≤ (k : Int) := by omega
    have z5 : (k : Int) ≤ 1000000 := by omega
    replace fin := hide fin
    replace hL := hide hL
    have H := hide h
    have HF := hide hf
    have HE := hide he
    have HK := hide hk
    clear h h' hst hgr FF hcur hkeep hown hfz hc hf he k1 hLv e hkk k2
    rw [hk]
    go_enter Try.func20, Try.ntmps20
    go_wp2_with fail
    refine (of_any (unhide H) _ (by rw [← unhide HK]; exact unhide HF) hl).mono ?_
    rintro e w1 ⟨rfl, rfl⟩
    rw [← unhide HK, unhide HE, unhide HK]
    go_wp2_with fail
    go_ret
    refine ⟨rfl, ?_⟩
    have hfin := unhide fin
    rw [unhide HK] at hfin
    exact hfin
theorem info65 : (Try.prog.info? 65).map (fun i => (i.zero, i.size, i.bytes)) = some (some (.pointer none), 1, 8) := by kernel_rfl
abbrev File0 : Array Value := (Value.slice none 0 0 :: bools (fun _ => false)).toArray
theorem zero68 (w : World) : (zeroValue 68).run Try.prog w = .ok (.agg File0) w := (zero_of_info (P := Try.prog) (t := 68) (v := .agg File0) (n := 65) (by kernel_rfl)).1 w
set_option maxHeartbeats 1000000 in
theorem rmake_any {base lim n : Nat} {W : World} {q : Nat} {s : S} (h : Rq base lim n W q s) (hl : s.fs.length ≤ 100000) :
    Calls Try.prog 19 #[P0 q] W fun e w' => e = .returned (I ((s.fs.length + 1 : Nat) : Int)) ∧ Rq base w'.heap.size n w' q s.add ∧ RFr base lim W w' := by
  obtain ⟨Lv, fb, bv, h⟩ := h
  obtain ⟨c0, c1, cf⟩ := h.cells
  obtain ⟨i0, hi, hz0, hz1, hz2⟩ := info_parts info65
  have hll := h.ll
  have ho := (h.hL.alloc (.cells File0 68)).alloc (.cells #[P0 W.heap.size] 65)
  have H := hide h
  have hz68 := zero68
  obtain ⟨L, hL⟩ : ∃ L : Nat, L = s.fs.length := ⟨_, rfl⟩
  rw [← hL] at ho hl
  replace hL := hide hL
  have HO := hide ho
  clear h ho c0
  go_enter Try.func19, Try.ntmps19
  go_wp2_with (first | (at_builtin; refine wpList_append_own_at _ rfl _ _ 62 rfl base 65 i0 (.pointer none) 1 8 Try.underlying62 hi hz0 hz1 hz2 rfl (by decide) Lv L _ rfl (unhide HO) ⟨W.heap.size + 1, 0, none⟩ 1 1 [P0 W.heap.size] rfl rfl ?_ ?_ (by unfold maxLen; omega) (by omega) ?_ ?_) | fail)
  · intro j u hu
    have hc := heap_alloc_new (W.alloc (.cells File0 68)) (.cells #[P0 W.heap.size] 65)
    simp only [World.size_alloc] at hc
    rw [Addr.add_mid, cell_of hc, Nat.zero_add]
    simpa using hu
  · intro u hu
    simp at hu
    subst hu
    rfl
  · simp
    omega
  · intro v' w1 hO hG hne hblk
    have h := unhide H
    obtain ⟨a, cap, hv, _⟩ := own_val hO
    subst hv
    have hqb : ∀ g, Lv.ownBlock = some g → g ≠ q := fun g hg e => by
      obtain ⟨_, cur, e2⟩ := own_blk h.hL hg
      rw [e, h.hq] at e2
      simp at e2
    have hq0 := lt_of_heap h.hq
    have K : ∀ b, b < W.heap.size → Lv.ownBlock ≠ some b → w1.heap[b]? = W.heap[b]? := fun b hb hn => by
      rw [hG.block b (by simp; omega) (fun e => hn e.symm), Below.heap_alloc _ _ _ (by simp; omega), Below.heap_alloc _ _ _ hb]
    have hq1 : w1.heap[q]? = some (.cells #[I n, Lv] 64) := (K q hq0 (fun e => hqb q e rfl)).trans h.hq
    have d1 : w1.cell? ⟨q, 1, none⟩ = some Lv := by rw [cell_of hq1]; rfl
    have df : ∀ i, w1.frozen? ⟨q, i, none⟩ = false := frozen_of hq1
    obtain ⟨w2, hw2⟩ : ∃ w2, w2 = w1.setCell ⟨q, 1, none⟩ (.slice a (L + 1) cap) := ⟨_, rfl⟩
    have hq2 : w2.heap[q]? = some (.cells #[I n, .slice a (L + 1) cap] 64) := by rw [hw2, heap_set hq1]; rfl
    have d2 : w2.cell? ⟨q, 1, none⟩ = some (.slice a (L + 1) cap) := by rw [cell_of hq2]; rfl
    have hs1 : W.heap.size + 2 ≤ w1.heap.size := by have := hG.size; simp at this; omega
    have hs2 : w2.heap.size = w1.heap.size := by rw [hw2]; simp [World.setCell]
    have K2 : ∀ b, b ≠ q → w2.heap[b]? = w1.heap[b]? := fun b hb => by rw [hw2]; exact Below.heap_setCell _ _ _ _ (by exact hb)
    have fin : Rq base w2.heap.size n w2 q s.add ∧ RFr base lim W w2 := by
      have hLl := unhide hL
      have hget : ∀ i z, s.add.fs[i]? = some (some z) → (i = L ∧ z = F.empty) ∨ (i < L ∧ s.fs[i]? = some (some z)) := fun i z hz => by
        simp only [S.add] at hz
        by_cases e : i < s.fs.length
        · rw [List.getElem?_append_left e] at hz
          exact .inr ⟨by omega, hz⟩
        · rw [List.getElem?_append_right (by omega)] at hz
          have : i - s.fs.length = 0 := by
            have := (List.getElem?_eq_some_iff.1 hz).1
            simp at this
            omega
          rw [this] at hz
          simp at hz
          exact .inl ⟨by omega, hz.symm⟩
      have hbl : ∀ i z, s.fs[i]? = some (some z) → fb i ≠ q ∧ (∀ g, Lv.ownBlock = some g → g ≠ fb i) := fun i z hz => by
        have hz3 := h.hx i z hz
        refine ⟨fun e => ?_, fun g hg e => ?_⟩
        · have e2 := hz3.hc
          rw [e, h.hq] at e2
          simp at e2
        · obtain ⟨_, cur, e2⟩ := own_blk h.hL hg
          rw [e, hz3.hc] at e2
          simp at e2
      have FF : Fr (q :: Lv.ownBlock.toList) W w2 := by
        refine ⟨?_, ?_, ?_, by omega, fun b hb hn => ?_⟩
        · rw [hw2]; exact hG.os
        · rw [hw2]; exact hG.tape
        · rw [hw2]; exact hG.output
        · simp only [List.mem_cons, not_or] at hn
          rw [K2 b hn.1, K b hb (fun e => hn.2 (by rw [e]; simp))]
      refine ⟨⟨.slice a (L + 1) cap, fun i => if i = L then W.heap.size else fb i, fun i => if i = L then .slice none 0 0 else bv i, hq2, ?_, ?_, ?_, ⟨h.lq.1, by omega⟩, fun g hg => ?_, by omega, Nat.le_refl _⟩, .of_fr FF (by omega) fun b hb => ?_⟩
      · have e1 : s.add.fs.length = L + 1 := by simp [S.add, hLl]
        have e2 : ptrs s.add.fs (fun i => if i = L then W.heap.size else fb i) = ptrs s.fs fb ++ [P0 W.heap.size] := by
          apply List.ext_getElem?
          intro i
          rw [ptrs_get]
          simp only [S.add]
          by_cases e : i < s.fs.length
          · rw [List.getElem?_append_left e, List.getElem?_append_left (by rw [ptrs_len]; exact e), ptrs_get]
            cases ho : s.fs[i]? with
            | none => rfl
            | some o => cases o <;> simp [ptrV, show ¬ i = L by omega]
          · rw [List.getElem?_append_right (by omega), List.getElem?_append_right (by rw [ptrs_len]; omega), ptrs_len]
            by_cases e3 : i = s.fs.length
            · subst e3
              simp [ptrV, hLl]
            · rw [List.getElem?_eq_none (by simp; omega), List.getElem?_eq_none (by simp; omega)]
              rfl
        rw [e1, e2]
        refine own_keep hO fun g cur hg hc => K2 g fun e => ?_
        rw [e, hq1] at hc
        simp at hc
      · intro i z hz
        rcases hget i z hz with ⟨rfl, rfl⟩ | ⟨hi, hz2⟩
        · simp only [if_true]
          refine ⟨?_, World.ownsRow_nil _ _ _ _, ⟨by omega, by omega⟩, fun g hg => (by cases hg), F.empty_ok⟩
          have hn1 : some W.heap.size ≠ Lv.ownBlock := fun e => by
            have := h.lL _ e.symm
            omega
          rw [K2 _ (by omega), hG.block _ (by simp; omega) hn1, Below.heap_alloc _ _ _ (by simp), heap_alloc_new]
          rfl
        · simp only [if_neg (show ¬ i = L by omega)]
          have hz3 := h.hx i z hz2
          have hb2 := hbl i z hz2
          refine ⟨?_, own_keep hz3.hb fun g cur hg hc => ?_, ⟨hz3.lc.1, by have := hz3.lc.2; omega⟩, fun g hg => by have := hz3.lb g hg; omega, hz3.ok⟩
          · rw [K2 _ hb2.1, K _ (lt_of_heap hz3.hc) (fun e => hb2.2 _ e rfl)]
            exact hz3.hc
          · have hn1 : g ≠ q := fun e => by
              rw [e, h.hq] at hc
              simp at hc
            have hn2 : Lv.ownBlock ≠ some g := fun e => by
              obtain ⟨_, cur2, e2⟩ := own_blk h.hL e
              rw [hc] at e2
              simp at e2
            rw [K2 _ hn1, K _ (lt_of_heap hc) hn2]
      · intro i j z u hz hu hij
        rcases hget i z hz with ⟨rfl, rfl⟩ | ⟨hi, hz2⟩
        · rcases hget j u hu with ⟨rfl, rfl⟩ | ⟨hj, hu2⟩
          · exact absurd rfl hij
          · simp only [if_true, if_neg (show ¬ j = i by omega)]
            refine ⟨?_, fun g hg => (by cases hg)⟩
            have := lt_of_heap (h.hx j u hu2).hc
            omega
        · rcases hget j u hu with ⟨rfl, rfl⟩ | ⟨hj, hu2⟩
          · simp only [if_true, if_neg (show ¬ i = j by omega)]
            refine ⟨?_, fun g _ hg => (by cases hg)⟩
            have := lt_of_heap (h.hx i z hz2).hc
            omega
          · simp only [if_neg (show ¬ i = L by omega), if_neg (show ¬ j = L by omega)]
            exact h.dc i j z u hz2 hu2 hij
      · rcases hblk with e | e
        · rw [e] at hg
          have := h.lL g hg
          omega
        · obtain ⟨_, cur, e2⟩ := own_blk hO hg
          have := lt_of_heap e2
          omega
      · simp only [List.mem_cons] at hb
        rcases hb with rfl | hb
        · exact ⟨h.lq.1, h.lq.2, _, _, _, h.hq, by decide⟩
        · have hb2 : Lv.ownBlock = some b := by simpa using hb
          obtain ⟨h1, cur, e2⟩ := own_blk h.hL hb2
          exact ⟨h1, h.lL b hb2, _, _, _, e2, by decide⟩
    replace fin := hide fin
    replace hw2 := hide hw2
    have hL1 : (L : Int) ≤ 100000 := by omega
    clear hO hG hblk hq1 hq2 K K2 hs1 hs2 hqb h
    go_wp2_with fail
    go_ret
    refine ⟨by rw [← unhide hL]; rfl, ?_⟩
    have hfin := unhide fin
    rw [unhide hw2] at hfin
    exact hfin
end Go.Proofs.Ytaogokgklkdmpaa
