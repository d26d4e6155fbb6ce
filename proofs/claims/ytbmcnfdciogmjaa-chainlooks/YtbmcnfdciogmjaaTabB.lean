/-
  What a table is behind a key that was put, and behind one that was dropped.
-/
import Derived.Test.YtbmcnfdciogmjaaFind
namespace Go.Proofs.Ytbmcnfdciogmjaa
open Go.RowKit

def upd (ch : Nat → List E) (i : Nat) (l : List E) : Nat → List E := fun j => if j = i then l else ch j
theorem upd_same (ch : Nat → List E) (i : Nat) (l : List E) : upd ch i l i = l := by simp [upd]
theorem upd_ne (ch : Nat → List E) {i j : Nat} (l : List E) (h : j ≠ i) : upd ch i l j = ch j := by simp [upd, h]
theorem cell_setSame {W : World} {b i : Nat} {u v : Value} (h : W.cell? ⟨b, i, none⟩ = some u) : (W.setCell ⟨b, i, none⟩ v).cell? ⟨b, i, none⟩ = some v := by
  simp only [World.cell?, World.setCell, Array.getElem?_modify, if_true] at h ⊢
  cases ho : W.heap[b]? with
  | none => rw [ho] at h; simp at h
  | some o =>
    rw [ho] at h
    cases o with
    | cells cs t f =>
      simp at h ⊢
      obtain ⟨hl, _⟩ := Array.getElem?_eq_some_iff.1 h
      simp [hl]
    | _ => simp at h

/-- A node is linked out. -/
theorem Path.unlink {S : List (Nat × Nat)} {W W' : World} (p d : E) (B : List E) (g : Fr S W W') (hc : W'.cell? ⟨p.blk, p.off + 2, none⟩ = some (nx B)) (hp : ∀ j, j < 2 → (p.blk, p.off + j) ∉ S) :
    (Q : List E) → Path W (Q ++ p :: d :: B) → (∀ x ∈ Q ++ B, ∀ j, j < 3 → (x.blk, x.off + j) ∉ S) → Path W' (Q ++ p :: B)
  | [], h, hs => by
    have hn := h.1
    have hl := hn.lt
    exact ⟨⟨hn.m3, (g.cel _ _ hl (hp 0 (by omega))).trans hn.k0, (g.cel _ _ hl (hp 1 (by omega))).trans hn.k1, hc, (g.frz _ _ hl).trans hn.fz⟩, h.2.2.fr g fun x hx => hs x (by simpa using hx)⟩
  | q :: Q, h, hs => by
    have e : nx (Q ++ p :: d :: B) = nx (Q ++ p :: B) := by cases Q <;> rfl
    have h1 : Node W q (nx (Q ++ p :: d :: B)) := h.1
    rw [e] at h1
    exact ⟨h1.fr g (hs q (by simp)), Path.unlink p d B g hc hp Q h.2 fun x hx => hs x (List.mem_cons_of_mem _ hx)⟩

/-- The list without a key. -/
def drop (m : Pairs) (k : ByteArray) : Pairs := m.eraseP (fun p => decide (p.1 = k))
theorem mem_drop {m : Pairs} (h : (m.map (·.1)).Nodup) {k a : ByteArray} {v : Int} : (a, v) ∈ drop m k ↔ (a, v) ∈ m ∧ a ≠ k := by
  induction m with
  | nil => simp [drop]
  | cons p m ih =>
    rw [List.map_cons, List.nodup_cons] at h
    have ih := ih h.2
    unfold drop at *
    by_cases hp : p.1 = k
    · rw [List.eraseP_cons_of_pos (by simpa using hp)]
      constructor
      · intro hm
        refine ⟨List.mem_cons_of_mem _ hm, ?_⟩
        rintro rfl
        exact h.1 (List.mem_map.2 ⟨_, hm, hp.symm⟩)
      · rintro ⟨hm, hne⟩
        rcases List.mem_cons.1 hm with e | hm
        · exact absurd (by rw [← hp, ← e]) hne
        · exact hm
    · rw [List.eraseP_cons_of_neg (by simpa using hp), List.mem_cons, List.mem_cons, ih]
      constructor
      · rintro (e | ⟨h1, h2⟩)
        · exact ⟨.inl e, by rw [← e] at hp; exact hp⟩
        · exact ⟨.inr h1, h2⟩
      · rintro ⟨e | h1, h2⟩
        · exact .inl e
        · exact .inr ⟨h1, h2⟩
theorem drop_len {m : Pairs} {k : ByteArray} (h : has m k = true) : (drop m k).length = m.length - 1 := by
  obtain ⟨v, hv⟩ := has_iff.1 h
  exact List.length_eraseP_of_mem hv (by simp)
theorem drop_nodup {m : Pairs} {k : ByteArray} (h : (m.map (·.1)).Nodup) : ((drop m k).map (·.1)).Nodup :=
  h.sublist (List.Sublist.map _ List.eraseP_sublist)

section
variable {base : Nat} {W W' : World} {bt bh n : Nat} {ch : Nat → List E} {m : Pairs}
theorem Tb.same_blk (h : Tb base W bt bh n ch m) {i j : Nat} (hi : i < n) (hj : j < n) {x y : E} (hx : x ∈ ch i) (hy : y ∈ ch j) (e : x.blk = y.blk) : x.key = y.key := by
  obtain ⟨v, hv⟩ := (h.path i hi).mem x (by simp [hx])
  obtain ⟨u, hu⟩ := (h.path j hj).mem y (by simp [hy])
  have h1 := hv.k0
  have h2 := hu.k0
  rw [h.off0 i x hi hx, e] at h1
  rw [h.off0 j y hj hy, h1] at h2
  simpa using h2
theorem Tb.bh_ne (h : Tb base W bt bh n ch m) : bh ≠ bt := h.bt_ne (i := 0) (by have := h.lo; omega) (x := headE bh 0) (by simp)
/-- The nodes of the other chains do not lie where chain i's head points from. -/
theorem Tb.head_apart (h : Tb base W bt bh n ch m) {i j : Nat} (hj : j < n) {x : E} (hx : x ∈ headE bh j :: ch j) (hne : x ∈ ch j ∨ j ≠ i) (t : Nat) (ht : t < 3) : (x.blk, x.off + t) ∉ [(bh, i * 3 + 2), (bt, 1)] := by
  have h1 := h.bt_ne hj hx
  have h2 : x ∈ ch j → x.blk ≠ bh := h.nbh j x hj
  simp only [List.mem_cons, Prod.mk.injEq, List.not_mem_nil, or_false, not_or, not_and]
  refine ⟨fun e => ?_, fun e => absurd e h1⟩
  rcases List.mem_cons.1 hx with rfl | hx
  · rcases hne with hm | hne
    · exact absurd e (h2 hm)
    · simp only [headE]; omega
  · exact absurd e (h2 hx)
theorem Tb.put {e v : Int} {key : ByteArray} (h : Tb base W bt bh n ch m) (hh : has m key = false) (hm : m.length < 64) (hbase : base ≤ W.heap.size) (he : e = (m.length : Int) + 1) {i : Nat} (hi : slotOf n key = i) {N : Nat} (hN : N = W.heap.size) :
    Tb base (((W.alloc (.cells #[.string key, .int .i64 v, nx (ch i)] 62)).setCell ⟨bh, i * 3 + 2, none⟩ (.pointer (some ⟨N, 0, none⟩))).setCell ⟨bt, 1, none⟩ (.int .i64 e)) bt bh n (upd ch i (⟨N, 0, key, v⟩ :: ch i)) (m ++ [(key, v)]) ∧
    Fr [(bh, i * 3 + 2), (bt, 1)] W (((W.alloc (.cells #[.string key, .int .i64 v, nx (ch i)] 62)).setCell ⟨bh, i * 3 + 2, none⟩ (.pointer (some ⟨N, 0, none⟩))).setCell ⟨bt, 1, none⟩ (.int .i64 e)) := by
  have hin : i < n := by rw [← hi]; exact slot_lt h.lo key
  have F : Fr [(bh, i * 3 + 2), (bt, 1)] W (((W.alloc (.cells #[.string key, .int .i64 v, nx (ch i)] 62)).setCell ⟨bh, i * 3 + 2, none⟩ (.pointer (some ⟨N, 0, none⟩))).setCell ⟨bt, 1, none⟩ (.int .i64 e)) :=
    (((Fr.refl _ W).alloc _).set (by simp) _).set (by simp) _
  have hnb := h.bh_ne
  have lt1 : bt < W.heap.size := h.own_lt (.inl rfl)
  have lt2 : bh < W.heap.size := h.own_lt (.inr (.inl rfl))
  refine ⟨?_, F⟩
  generalize hW1 : W.alloc (.cells #[.string key, .int .i64 v, nx (ch i)] 62) = W1 at *
  have hnew : W1.heap[N]? = some (.cells #[.string key, .int .i64 v, nx (ch i)] 62) := by rw [← hW1]; exact putAll _ _ hN
  have hb1 : W1.heap[bt]? = W.heap[bt]? := by rw [← hW1]; exact Below.heap_alloc _ _ _ lt1
  have hh1 : W1.heap[bh]? = W.heap[bh]? := by rw [← hW1]; exact Below.heap_alloc _ _ _ lt2
  generalize hW2 : W1.setCell ⟨bh, i * 3 + 2, none⟩ (.pointer (some ⟨N, 0, none⟩)) = W2 at *
  have hnew2 : W2.heap[N]? = some (.cells #[.string key, .int .i64 v, nx (ch i)] 62) := by rw [← hW2, Below.heap_setCell _ _ _ _ (by simp; omega)]; exact hnew
  have hb2 : W2.heap[bt]? = W.heap[bt]? := by rw [← hW2, Below.heap_setCell _ _ _ _ (by simp; omega)]; exact hb1
  have hc2 : W2.cell? ⟨bh, i * 3 + 2, none⟩ = some (.pointer (some ⟨N, 0, none⟩)) := by
    rw [← hW2]
    exact cell_setSame (u := nx (ch i)) ((cell_same hh1 _).trans (h.path i hin).1.k2)
  have hNb : N ≠ bt := by omega
  have hx : ∀ j, j < n → ∀ x ∈ upd ch i (⟨N, 0, key, v⟩ :: ch i) j, (j = i ∧ x = ⟨N, 0, key, v⟩) ∨ x ∈ ch j := by
    intro j _ x hx
    by_cases hj : j = i
    · subst hj
      rw [upd_same] at hx
      rcases List.mem_cons.1 hx with e | hx
      · exact .inl ⟨rfl, e⟩
      · exact .inr hx
    · rw [upd_ne _ _ hj] at hx
      exact .inr hx
  have hnk : ∀ x ∈ ch i, x.key ≠ key := by
    intro x hx hk
    have := (h.mem key x.val).2 ⟨x, by rw [hi]; exact hx, hk, rfl⟩
    exact has_false.1 hh _ this
  refine ⟨?_, h.lo, h.hi, ?_, ?_, ?_, ?_, ?_, ?_, ?_, by simp; omega, h.kt, h.kh, ?_, ?_⟩
  · rw [heap_set (hb2.trans h.hb) 1]
    simp [he]
  · intro j hj
    by_cases hji : j = i
    · subst hji
      rw [upd_same]
      have p := (h.path j hj)
      refine ⟨⟨p.1.m3, (F.cel _ _ p.1.lt ?_).trans p.1.k0, (F.cel _ _ p.1.lt ?_).trans p.1.k1, ?_, (F.frz _ _ p.1.lt).trans p.1.fz⟩, ⟨by simp, ?_, ?_, ?_, ?_⟩, p.2.fr F fun x hx t ht => h.head_apart hj (by simp [hx]) (.inl hx) t ht⟩
      · simp [headE, hnb]
      · simp [headE, hnb]
      · exact (cell_setOther (by simp [headE, hnb])).trans hc2
      · rw [cell_setOther (by simp [hNb]), cell_of hnew2]; rfl
      · rw [cell_setOther (by simp [hNb]), cell_of hnew2]; rfl
      · rw [cell_setOther (by simp [hNb]), cell_of hnew2]; rfl
      · rw [frozen_set]; exact frozen_of hnew2 _
    · rw [upd_ne _ _ hji]
      exact (h.path j hj).fr F fun x hx t ht => h.head_apart hj hx (.inr hji) t ht
  · intro j x hj hm'
    rcases hx j hj x hm' with ⟨_, rfl⟩ | hm'
    · rfl
    · exact h.off0 j x hj hm'
  · intro j x hj hm'
    rcases hx j hj x hm' with ⟨_, rfl⟩ | hm'
    · simp; omega
    · exact h.nbh j x hj hm'
  · intro j x hj hm'
    rcases hx j hj x hm' with ⟨e1, rfl⟩ | hm'
    · rw [e1]; exact hi
    · exact h.slot j x hj hm'
  · intro k u
    rw [List.mem_append, h.mem]
    by_cases hk : slotOf n k = i
    · rw [hk, upd_same]
      constructor
      · rintro (⟨x, hx1, hx2⟩ | hx1)
        · exact ⟨x, by simp [hx1], hx2⟩
        · simp at hx1
          exact ⟨⟨N, 0, key, v⟩, by simp, hx1.1.symm, hx1.2.symm⟩
      · rintro ⟨x, hx1, hx2, hx3⟩
        rcases List.mem_cons.1 hx1 with rfl | hx1
        · exact .inr (by simp at hx2 hx3 ⊢; exact ⟨hx2.symm, hx3.symm⟩)
        · exact .inl ⟨x, hx1, hx2, hx3⟩
    · rw [upd_ne _ _ hk]
      constructor
      · rintro (hx1 | hx1)
        · exact hx1
        · simp at hx1; rw [hx1.1] at hk; exact absurd hi hk
      · exact .inl
  · intro j hj
    by_cases hji : j = i
    · subst hji
      rw [upd_same, List.map_cons, List.nodup_cons]
      refine ⟨?_, h.nod j hj⟩
      intro hk
      obtain ⟨x, hx1, hx2⟩ := List.mem_map.1 hk
      exact hnk x hx1 hx2
    · rw [upd_ne _ _ hji]; exact h.nod j hj
  · rw [List.map_append, List.nodup_append]
    refine ⟨h.mnod, by simp, ?_⟩
    intro a ha b hb
    simp at hb
    subst hb
    rintro rfl
    obtain ⟨p, hp1, hp2⟩ := List.mem_map.1 ha
    exact has_false.1 hh p.2 (by rw [← hp2]; exact hp1)
  · intro j x hj hm'
    rcases hx j hj x hm' with ⟨_, rfl⟩ | hm'
    · simp; omega
    · exact h.kx j x hj hm'
  · intro k hk
    by_cases hkN : k = N
    · rw [hkN]
      exact ⟨_, by rw [Below.heap_setCell _ _ _ _ (by simp; omega)]; exact hnew2⟩
    · have hk2 : k = bh ∨ ∃ i, i < n ∧ ∃ x ∈ ch i, x.blk = k := by
        rcases hk with hk | ⟨j, hj, x, hx1, hx3⟩
        · exact .inl hk
        · rcases hx j hj x hx1 with ⟨_, e1⟩ | hx4
          · rw [e1] at hx3; exact absurd hx3.symm hkN
          · exact .inr ⟨j, hj, x, hx4, hx3⟩
      obtain ⟨cs, hcs⟩ := h.ty k hk2
      have hkl : k < W.heap.size := lt_of_heap hcs
      have hk1 : W1.heap[k]? = some (.cells cs 62) := by rw [← hW1, Below.heap_alloc _ _ _ hkl]; exact hcs
      have hkt : k ≠ bt := by
        rintro rfl
        rw [h.hb] at hcs
        simp at hcs
      rw [Below.heap_setCell _ _ _ _ (by simp; omega), ← hW2]
      by_cases hkb : k = bh
      · rw [hkb] at hk1 ⊢; exact ⟨_, heap_set hk1 _ _⟩
      · exact ⟨cs, by rw [Below.heap_setCell _ _ _ _ (by simp; omega)]; exact hk1⟩
/-- A node of chain i that is not pred lies elsewhere. -/
theorem Tb.pred_apart (h : Tb base W bt bh n ch m) {i : Nat} (hi : i < n) {p : E} (hp : p ∈ headE bh i :: ch i) {j : Nat} (hj : j < n) {x : E} (hx : x ∈ headE bh j :: ch j) (hne : j = i → (p ∈ ch i → x ∈ ch i → x.key ≠ p.key) ∧ (p = headE bh i → x ∈ ch i) ) (t : Nat) (ht : t < 3) : (x.blk, x.off + t) ∉ [(p.blk, p.off + 2), (bt, 1)] := by
  have h1 := h.bt_ne hj hx
  simp only [List.mem_cons, Prod.mk.injEq, List.not_mem_nil, or_false, not_or, not_and]
  refine ⟨fun e => ?_, fun e => absurd e h1⟩
  rcases List.mem_cons.1 hp with rfl | hp
  · rcases List.mem_cons.1 hx with rfl | hx
    · by_cases hji : j = i
      · have := (hne hji).2 rfl
        exact absurd rfl (h.nbh i (headE bh j) hi this)
      · simp only [headE]; omega
    · exact absurd e (h.nbh j x hj hx)
  · rcases List.mem_cons.1 hx with rfl | hx
    · exact absurd e.symm (h.nbh i p hi hp)
    · have hk := h.same_blk hj hi hx hp e
      by_cases hji : j = i
      · subst hji
        exact absurd hk ((hne rfl).1 hp hx)
      · have s1 := h.slot j x hj hx
        have s2 := h.slot i p hi hp
        rw [hk] at s1
        exact absurd (s1.symm.trans s2) hji
theorem Tb.drop {key : ByteArray} {e : Int} (h : Tb base W bt bh n ch m) (hh : has m key = true) (he : e = (m.length : Int) - 1) {i : Nat} (hi : slotOf n key = i) {A B : List E} {d : E} (hc : ch i = A ++ d :: B) (hd : d.key = key) (hA : ∀ z ∈ A, z.key ≠ key) {p : E} (hp : p = (headE bh i :: A).getLast (by simp)) :
    Tb base ((W.setCell ⟨p.blk, p.off + 2, none⟩ (nx B)).setCell ⟨bt, 1, none⟩ (.int .i64 e)) bt bh n (upd ch i (A ++ B)) (Go.Proofs.Ytbmcnfdciogmjaa.drop m key) ∧
    Fr [(p.blk, p.off + 2), (bt, 1)] W ((W.setCell ⟨p.blk, p.off + 2, none⟩ (nx B)).setCell ⟨bt, 1, none⟩ (.int .i64 e)) := by
  have hin : i < n := by rw [← hi]; exact slot_lt h.lo key
  have F : Fr [(p.blk, p.off + 2), (bt, 1)] W ((W.setCell ⟨p.blk, p.off + 2, none⟩ (nx B)).setCell ⟨bt, 1, none⟩ (.int .i64 e)) :=
    ((Fr.refl _ W).set (by simp) _).set (by simp) _
  refine ⟨?_, F⟩
  -- the chain as Q ++ p :: d :: B
  obtain ⟨Q, hQ⟩ : ∃ Q, headE bh i :: A = Q ++ [p] := ⟨_, by rw [hp]; exact (List.dropLast_concat_getLast (by simp)).symm⟩
  have hpm : p ∈ headE bh i :: A := by rw [hQ]; simp
  have hpm2 : p ∈ headE bh i :: ch i := by
    rcases List.mem_cons.1 hpm with e | e
    · rw [e]; simp
    · rw [hc]; simp [e]
  have hpt : p.blk ≠ bt := h.bt_ne hin hpm2
  have hpath := h.path i hin
  have hpath2 : Path W (Q ++ p :: d :: B) := by
    have : headE bh i :: ch i = Q ++ p :: d :: B := by rw [hc, ← List.cons_append, hQ]; simp
    rw [← this]; exact hpath
  have hnd := h.nod i hin
  rw [hc] at hnd
  -- nodes of chain i but p and d
  have hoth : ∀ x ∈ Q ++ B, (p ∈ ch i → x ∈ ch i → x.key ≠ p.key) ∧ (p = headE bh i → x ∈ ch i) := by
    intro x hx
    constructor
    · intro hpc hxc
      rcases List.mem_cons.1 hpm with e | hpA
      · rw [e] at hpc; exact absurd rfl (h.nbh i _ hin hpc)
      · -- A = Q' ++ [p]
        cases Q with
        | nil => 
          simp at hQ
          rw [hQ.2] at hpA; simp at hpA
        | cons q Q =>
          simp at hQ
          obtain ⟨e1, e2⟩ := hQ
          have hA2 : A ++ d :: B = Q ++ p :: d :: B := by rw [e2]; simp
          rw [hA2] at hnd
          simp only [List.map_append, List.map_cons] at hnd
          rw [List.nodup_append] at hnd
          obtain ⟨n1, n2, n3⟩ := hnd
          rw [List.nodup_cons] at n2
          simp only [List.cons_append, List.mem_cons, List.mem_append] at hx
          rcases hx with hx | hx | hx
          · rw [hx, ← e1] at hxc; exact absurd rfl (h.nbh i _ hin hxc)
          · exact n3 x.key (List.mem_map.2 ⟨x, hx, rfl⟩) p.key (by simp)
          · intro e
            exact n2.1 (List.mem_cons_of_mem _ (List.mem_map.2 ⟨x, hx, e⟩))
    · intro hph
      have hAn : A = [] := by
        cases A with
        | nil => rfl
        | cons a A =>
          exfalso
          have : p ∈ a :: A := by
            rw [hp, List.getLast_cons (by simp)]
            exact List.getLast_mem _
          have h2 : p ∈ ch i := by rw [hc]; simp only [List.mem_append]; exact .inl this
          rw [hph] at h2
          exact h.nbh i _ hin h2 rfl
      have hQn : Q = [] := by
        rw [hAn] at hQ
        cases Q with
        | nil => rfl
        | cons q Q => simp at hQ
      rw [hQn] at hx
      rw [hc]; simp only [List.mem_append, List.mem_cons]; exact .inr (.inr (by simpa using hx))
  have hsub : ∀ x ∈ Q ++ B, x ∈ headE bh i :: ch i := by
    intro x hx
    rcases List.mem_append.1 hx with hx | hx
    · have : x ∈ headE bh i :: A := by rw [hQ]; simp [hx]
      rcases List.mem_cons.1 this with e | e
      · simp [e]
      · rw [hc]; simp [e]
    · rw [hc]; simp [hx]
  have hnew : Path ((W.setCell ⟨p.blk, p.off + 2, none⟩ (nx B)).setCell ⟨bt, 1, none⟩ (.int .i64 e)) (headE bh i :: (A ++ B)) := by
    have e1 : headE bh i :: (A ++ B) = Q ++ p :: B := by rw [← List.cons_append, hQ]; simp
    rw [e1]
    refine Path.unlink p d B F ?_ ?_ Q hpath2 fun x hx t ht => h.pred_apart hin hpm2 hin (hsub x hx) (fun _ => hoth x hx) t ht
    · rw [cell_setOther (by simp [hpt])]
      obtain ⟨v, hv⟩ := hpath.mem p hpm2
      exact cell_setSame hv.k2
    · intro j hj
      simp [hpt]; omega
  have hx : ∀ j, j < n → ∀ x ∈ upd ch i (A ++ B) j, x ∈ ch j ∧ x.key ≠ key := by
    intro j hj x hx
    by_cases hji : j = i
    · subst hji
      rw [upd_same] at hx
      refine ⟨by rw [hc]; simp only [List.mem_append, List.mem_cons] at hx ⊢; rcases hx with hx | hx <;> simp [hx], ?_⟩
      rcases List.mem_append.1 hx with hx | hx
      · exact hA x hx
      · rw [List.map_append, List.nodup_append] at hnd
        have h9 := hnd.2.1
        rw [List.map_cons, List.nodup_cons, hd] at h9
        intro e
        exact h9.1 (List.mem_map.2 ⟨x, hx, e⟩)
    · rw [upd_ne _ _ hji] at hx
      refine ⟨hx, ?_⟩
      intro e
      have := h.slot j x hj hx
      rw [e, hi] at this
      exact hji this.symm
  have hx2 : ∀ j, ∀ x ∈ ch j, x.key ≠ key → x ∈ upd ch i (A ++ B) j := by
    intro j x hx1 hne
    by_cases hji : j = i
    · subst hji
      rw [upd_same]
      rw [hc] at hx1
      simp only [List.mem_append, List.mem_cons] at hx1 ⊢
      rcases hx1 with h1 | h1 | h1
      · exact .inl h1
      · rw [h1] at hne; exact absurd hd hne
      · exact .inr h1
    · rw [upd_ne _ _ hji]; exact hx1
  have hb1 : (W.setCell ⟨p.blk, p.off + 2, none⟩ (nx B)).heap[bt]? = W.heap[bt]? := Below.heap_setCell _ _ _ _ (by simp; omega)
  have hlen := drop_len hh
  have hpos : 1 ≤ m.length := by obtain ⟨v, hv⟩ := has_iff.1 hh; exact List.length_pos_of_mem hv
  refine ⟨?_, h.lo, h.hi, ?_, fun j x hj hm => h.off0 j x hj (hx j hj x hm).1, fun j x hj hm => h.nbh j x hj (hx j hj x hm).1, fun j x hj hm => h.slot j x hj (hx j hj x hm).1, ?_, ?_, drop_nodup h.mnod, by have := h.mlen; omega, h.kt, h.kh, fun j x hj hm => h.kx j x hj (hx j hj x hm).1, ?_⟩
  · rw [heap_set (hb1.trans h.hb) 1, hlen]
    simp [he]
    omega
  · intro j hj
    by_cases hji : j = i
    · subst hji; rw [upd_same]; exact hnew
    · rw [upd_ne _ _ hji]
      exact (h.path j hj).fr F fun x hx t ht => h.pred_apart hin hpm2 hj hx (fun e => absurd e hji) t ht
  · intro k u
    rw [mem_drop h.mnod, h.mem]
    constructor
    · rintro ⟨⟨x, h1, h2, h3⟩, hne⟩
      exact ⟨x, hx2 _ x h1 (by rw [h2]; exact hne), h2, h3⟩
    · rintro ⟨x, h1, h2, h3⟩
      obtain ⟨g1, g2⟩ := hx _ (slot_lt h.lo k) x h1
      exact ⟨⟨x, g1, h2, h3⟩, by rw [← h2]; exact g2⟩
  · intro j hj
    by_cases hji : j = i
    · subst hji
      rw [upd_same]
      refine hnd.sublist (List.Sublist.map _ ?_)
      exact (List.append_sublist_append_left A).2 (List.sublist_cons_self d B)
    · rw [upd_ne _ _ hji]; exact h.nod j hj
  · intro k hk
    have hk2 : k = bh ∨ ∃ i, i < n ∧ ∃ x ∈ ch i, x.blk = k := by
      rcases hk with hk | ⟨j, hj, x, hx1, hx3⟩
      · exact .inl hk
      · exact .inr ⟨j, hj, x, (hx j hj x hx1).1, hx3⟩
    obtain ⟨cs, hcs⟩ := h.ty k hk2
    have hkt : k ≠ bt := by
      rintro rfl
      rw [h.hb] at hcs
      simp at hcs
    rw [Below.heap_setCell _ _ _ _ (by simp; omega)]
    by_cases hkb : k = p.blk
    · rw [hkb] at hcs ⊢; exact ⟨_, heap_set hcs _ _⟩
    · exact ⟨cs, by rw [Below.heap_setCell _ _ _ _ (by simp; omega)]; exact hcs⟩
end
end Go.Proofs.Ytbmcnfdciogmjaa
