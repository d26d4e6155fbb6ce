/-
  A look that goes on while keys are put and dropped: the nodes ahead of it.
-/
import Derived.Test.YtbmcnfdciogmjaaPlaysA
namespace Go.Proofs.Ytbmcnfdciogmjaa
open Go.RowKit Go.Sort

section
variable {base : Nat} {W W' : World} {bt bh n : Nat} {ch : Nat → List E} {m : Pairs}
theorem Tb.nodup_blk (h : Tb base W bt bh n ch m) {i : Nat} (hi : i < n) : ((headE bh i :: ch i).map (·.blk)).Nodup := by
  rw [List.map_cons, List.nodup_cons]
  constructor
  · intro hm
    obtain ⟨x, hx, e⟩ := List.mem_map.1 hm
    exact h.nbh i x hi hx e
  · have hn := h.nod i hi
    rw [List.nodup_iff_pairwise_ne, List.pairwise_map] at hn ⊢
    exact hn.imp_of_mem fun ha hb hne e => hne (h.same_blk hi hi ha hb e)
theorem Tb.apart (h : Tb base W bt bh n ch m) {i : Nat} (hi : i < n) {Q R : List E} {p x : E} (he : headE bh i :: ch i = Q ++ p :: R) (hx : x ∈ Q ++ R) : x.blk ≠ p.blk := by
  have hn := h.nodup_blk hi
  rw [he, List.map_append, List.map_cons, List.nodup_append, List.nodup_cons] at hn
  obtain ⟨n1, ⟨n2, n3⟩, n4⟩ := hn
  rcases List.mem_append.1 hx with hx | hx
  · exact n4 _ (List.mem_map.2 ⟨x, hx, rfl⟩) _ (by simp)
  · intro e
    exact n2 (List.mem_map.2 ⟨x, hx, e⟩)
theorem Tb.own_mem (_ : Tb base W bt bh n ch m) {i : Nat} (hi : i < n) {x : E} (hx : x ∈ headE bh i :: ch i) : Own bt bh n ch x.blk := by
  rcases List.mem_cons.1 hx with e | e
  · exact .inr (.inl (by rw [e]; rfl))
  · exact .inr (.inr ⟨i, hi, x, e, rfl⟩)
theorem Tb.ty_mem (h : Tb base W bt bh n ch m) {i : Nat} (hi : i < n) {x : E} (hx : x ∈ headE bh i :: ch i) : ∃ cs, W.heap[x.blk]? = some (.cells cs 62) := by
  refine h.ty _ ?_
  rcases List.mem_cons.1 hx with e | e
  · exact .inl (by rw [e]; rfl)
  · exact .inr ⟨i, hi, x, e, rfl⟩
end

/-- What lies ahead of a look that stands at x: nodes that were dropped, then the rest of the chain. -/
def Vi (W : World) (bt bh n : Nat) (ch : Nat → List E) (sl : Nat) (x : E) (P : List E) : Prop :=
  ∃ D H T, x :: P = D ++ T ∧ headE bh sl :: ch sl = H ++ T ∧ Path W (x :: P) ∧ (∀ d ∈ D, ¬ Own bt bh n ch d.blk ∧ ∃ cs, W.heap[d.blk]? = some (.cells cs 62)) ∧ (H = [] → D = [])
section
variable {base : Nat} {W W' : World} {bt bh n : Nat} {ch : Nat → List E} {m : Pairs} {sl : Nat} {x : E} {P : List E}
theorem Vi.ty (h : Tb base W bt bh n ch m) (hs : sl < n) (v : Vi W bt bh n ch sl x P) : ∀ y ∈ x :: P, ∃ cs, W.heap[y.blk]? = some (.cells cs 62) := by
  obtain ⟨D, H, T, e1, e2, -, hD, -⟩ := v
  intro y hy
  rw [e1] at hy
  rcases List.mem_append.1 hy with hy | hy
  · exact (hD y hy).2
  · exact h.ty_mem hs (by rw [e2]; simp [hy])
theorem path_keep : {l : List E} → Path W l → (∀ y ∈ l, W'.heap[y.blk]? = W.heap[y.blk]?) → Path W' l
  | [], _, _ => trivial
  | y :: l, h, hk => by
    have e := hk y (by simp)
    exact ⟨⟨h.1.m3, (cell_same e _).trans h.1.k0, (cell_same e _).trans h.1.k1, (cell_same e _).trans h.1.k2, (frozen_same e _).trans h.1.fz⟩, path_keep h.2 fun z hz => hk z (by simp [hz])⟩
theorem Vi.keep (h : Tb base W bt bh n ch m) (hs : sl < n) (v : Vi W bt bh n ch sl x P) (hk : ∀ (k : Nat) (cs : Array Value), W.heap[k]? = some (.cells cs 62) → W'.heap[k]? = W.heap[k]?) : Vi W' bt bh n ch sl x P := by
  have ht := v.ty h hs
  obtain ⟨D, H, T, e1, e2, hp, hD, hH⟩ := v
  refine ⟨D, H, T, e1, e2, path_keep hp fun y hy => ?_, fun d hd => ⟨(hD d hd).1, ?_⟩, hH⟩
  · obtain ⟨cs, hc⟩ := ht y hy
    exact hk _ _ hc
  · obtain ⟨cs, hc⟩ := (hD d hd).2
    exact ⟨cs, (hk _ _ hc).trans hc⟩
theorem Vi.start (h : Tb base W bt bh n ch m) (hs : sl < n) : Vi W bt bh n ch sl (headE bh sl) (ch sl) :=
  ⟨[], [], headE bh sl :: ch sl, rfl, rfl, h.path sl hs, by simp, fun _ => rfl⟩
theorem Vi.step {y : E} (v : Vi W bt bh n ch sl x (y :: P)) : Vi W bt bh n ch sl y P := by
  obtain ⟨D, H, T, e1, e2, hp, hD, hH⟩ := v
  cases D with
  | nil =>
    simp at e1
    refine ⟨[], H ++ [x], y :: P, rfl, ?_, hp.2, by simp, by simp⟩
    rw [e2, ← e1]; simp
  | cons d D =>
    simp at e1
    refine ⟨D, H, T, e1.2, e2, hp.2, fun z hz => hD z (by simp [hz]), fun e => ?_⟩
    have := hH e
    simp at this
theorem Vi.put {k : ByteArray} {v : Int} {N : Nat} {m' : Pairs} {i : Nat} (h : Tb base W bt bh n ch m) (hs : sl < n) (hi : i < n) (V : Vi W bt bh n ch sl x P) (hN : W.heap.size ≤ N)
    (h' : Tb base W' bt bh n (upd ch i (⟨N, 0, k, v⟩ :: ch i)) m') (F : Fr [(bh, i * 3 + 2), (bt, 1)] W W') :
    ∃ P', Vi W' bt bh n (upd ch i (⟨N, 0, k, v⟩ :: ch i)) sl x P' ∧ (P' = P ∨ (i = sl ∧ ∃ y : E, y.key = k ∧ y.val = v ∧ P' = y :: P)) := by
  obtain ⟨D, H, T, e1, e2, hp, hD, hH⟩ := V
  have hT : ∀ y ∈ T, y ∈ headE bh sl :: ch sl := fun y hy => by rw [e2]; simp [hy]
  have hDn : ∀ d ∈ D, ∀ t, (d.blk, t) ∉ [(bh, i * 3 + 2), (bt, 1)] := by
    intro d hd t
    have := (hD d hd).1
    have a1 : d.blk ≠ bh := fun e => this (.inr (.inl e))
    have a2 : d.blk ≠ bt := fun e => this (.inl e)
    simp [a1, a2]
  have hD' : ∀ d ∈ D, ¬ Own bt bh n (upd ch i (⟨N, 0, k, v⟩ :: ch i)) d.blk ∧ ∃ cs, W'.heap[d.blk]? = some (.cells cs 62) := by
    intro d hd
    obtain ⟨o1, cs, o2⟩ := hD d hd
    refine ⟨?_, cs, (F.blk _ (lt_of_heap o2) (hDn d hd)).trans o2⟩
    rintro (e | e | ⟨j, hj, y, hy, e⟩)
    · exact o1 (.inl e)
    · exact o1 (.inr (.inl e))
    · by_cases hji : j = i
      · rw [hji, upd_same] at hy
        rcases List.mem_cons.1 hy with rfl | hy
        · have := lt_of_heap o2; simp at e; omega
        · exact o1 (.inr (.inr ⟨i, hi, y, hy, e⟩))
      · rw [upd_ne _ _ hji] at hy
        exact o1 (.inr (.inr ⟨j, hj, y, hy, e⟩))
  by_cases his : i = sl
  · subst his
    cases H with
    | nil =>
      have hd := hH rfl
      subst hd
      simp at e1 e2
      rw [← e1] at e2
      obtain ⟨ex, eP⟩ := List.cons.inj e2
      refine ⟨⟨N, 0, k, v⟩ :: P, ⟨[], [], headE bh i :: ⟨N, 0, k, v⟩ :: ch i, by rw [ex, eP]; rfl, by rw [upd_same]; rfl, ?_, by simp, fun _ => rfl⟩, .inr ⟨rfl, _, rfl, rfl, rfl⟩⟩
      have := h'.path i hi
      rw [upd_same] at this
      rw [← ex, ← eP]
      exact this
    | cons h0 H =>
      simp at e2
      obtain ⟨eh, ec⟩ := e2
      refine ⟨P, ⟨D, h0 :: ⟨N, 0, k, v⟩ :: H, T, e1, by rw [upd_same, ec, eh]; rfl, ?_, hD', by simp⟩, .inl rfl⟩
      refine hp.fr F fun y hy t ht => ?_
      rw [e1] at hy
      rcases List.mem_append.1 hy with hy | hy
      · exact hDn y hy _
      · exact h.head_apart (i := i) hi (hT y hy) (.inl (by rw [ec]; simp [hy])) t ht
  · refine ⟨P, ⟨D, H, T, e1, by rw [upd_ne _ _ (Ne.symm his)]; exact e2, ?_, hD', hH⟩, .inl rfl⟩
    refine hp.fr F fun y hy t ht => ?_
    rw [e1] at hy
    rcases List.mem_append.1 hy with hy | hy
    · exact hDn y hy _
    · exact h.head_apart hs (hT y hy) (.inr (Ne.symm his)) t ht
end
/-- What a Drop leaves of the nodes ahead. -/
def DropR (k : ByteArray) (P P' : List E) : Prop := P'.length ≤ P.length ∧ (∀ y ∈ P', y ∈ P) ∧ ∀ y ∈ P, y.key ≠ k → y ∈ P'
theorem DropR.refl (k : ByteArray) (P : List E) : DropR k P P := ⟨Nat.le_refl _, fun _ h => h, fun _ h _ => h⟩
section
variable {base : Nat} {W W' : World} {bt bh n : Nat} {ch : Nat → List E} {m : Pairs} {sl : Nat} {x : E} {P : List E}
theorem Vi.drop {k : ByteArray} {m' : Pairs} {i : Nat} {A B : List E} {d p : E} (h : Tb base W bt bh n ch m) (hs : sl < n) (hi : i < n) (V : Vi W bt bh n ch sl x P) (hc : ch i = A ++ d :: B) (hd : d.key = k) (hp0 : p = (headE bh i :: A).getLast (by simp))
    (hk' : ∀ v, (k, v) ∉ m') (h' : Tb base W' bt bh n (upd ch i (A ++ B)) m') (F : Fr [(p.blk, p.off + 2), (bt, 1)] W W') :
    ∃ P', Vi W' bt bh n (upd ch i (A ++ B)) sl x P' ∧ DropR k P P' := by
  obtain ⟨D, H, T, e1, e2, hp, hD, hH⟩ := V
  obtain ⟨Q, hQ⟩ : ∃ Q, headE bh i :: A = Q ++ [p] := ⟨_, by rw [hp0]; exact (List.dropLast_concat_getLast (by simp)).symm⟩
  have hcQ : headE bh i :: ch i = Q ++ p :: d :: B := by rw [hc, ← List.cons_append, hQ]; simp
  have hpm : p ∈ headE bh i :: ch i := by rw [hcQ]; simp
  have hpo := h.own_mem hi hpm
  have hT : ∀ y ∈ T, y ∈ headE bh sl :: ch sl := fun y hy => by rw [e2]; simp [hy]
  have hDn : ∀ z, ¬ Own bt bh n ch z → ∀ t, (z, t) ∉ [(p.blk, p.off + 2), (bt, 1)] := by
    intro z hz t
    have a1 : z ≠ p.blk := fun e => hz (by rw [e]; exact hpo)
    have a2 : z ≠ bt := fun e => hz (.inl e)
    simp [a1, a2]
  have hown : ∀ z, Own bt bh n (upd ch i (A ++ B)) z → Own bt bh n ch z := by
    rintro z (e | e | ⟨j, hj, y, hy, e⟩)
    · exact .inl e
    · exact .inr (.inl e)
    · by_cases hji : j = i
      · rw [hji, upd_same] at hy
        refine .inr (.inr ⟨i, hi, y, ?_, e⟩)
        rw [hc]; simp at hy ⊢; rcases hy with hy | hy <;> simp [hy]
      · rw [upd_ne _ _ hji] at hy
        exact .inr (.inr ⟨j, hj, y, hy, e⟩)
  have hD' : ∀ z ∈ D, ¬ Own bt bh n (upd ch i (A ++ B)) z.blk ∧ ∃ cs, W'.heap[z.blk]? = some (.cells cs 62) := by
    intro z hz
    obtain ⟨o1, cs, o2⟩ := hD z hz
    exact ⟨fun o => o1 (hown _ o), cs, (F.blk _ (lt_of_heap o2) (hDn _ o1)).trans o2⟩
  by_cases his : i = sl
  · subst his
    have hap : ∀ y ∈ Q ++ d :: B, ∀ t, (y.blk, t) ∉ [(p.blk, p.off + 2), (bt, 1)] := by
      intro y hy t
      have a1 := h.apart hi hcQ hy
      have a2 := h.bt_ne hi (x := y) (by rw [hcQ]; simp at hy ⊢; rcases hy with hy | hy | hy <;> simp [hy])
      simp [a1, a2]
    have hcases : (∃ c, c ≠ [] ∧ headE bh i :: A = H ++ c ∧ T = c ++ d :: B) ∨ (H = headE bh i :: A ∧ T = d :: B) ∨ (∃ a, H = (headE bh i :: A) ++ d :: a ∧ B = a ++ T) := by
      have e3 : (headE bh i :: A) ++ d :: B = H ++ T := by rw [← e2, hc]; rfl
      rcases List.append_eq_append_iff.1 e3 with ⟨a', f1, f2⟩ | ⟨c', f1, f2⟩
      · cases a' with
        | nil => exact .inr (.inl ⟨by simpa using f1, by simpa using f2.symm⟩)
        | cons z a' =>
          simp at f2
          exact .inr (.inr ⟨a', by rw [f1, f2.1], f2.2⟩)
      · cases c' with
        | nil => exact .inr (.inl ⟨by simpa using f1.symm, by simpa using f2⟩)
        | cons z c' => exact .inl ⟨z :: c', by simp, f1, f2⟩
    rcases hcases with ⟨c, hc0, f1, f2⟩ | ⟨f1, f2⟩ | ⟨a, f1, f2⟩
    · -- p among the nodes ahead
      obtain ⟨c1, hc1⟩ : ∃ c1, c = c1 ++ [p] := by
        refine ⟨c.dropLast, ?_⟩
        have e : (headE bh i :: A).getLast (by simp) = c.getLast hc0 := by
          simp only [f1]
          rw [List.getLast_append_of_ne_nil _ hc0]
        rw [hp0, e]
        exact (List.dropLast_concat_getLast hc0).symm
      have hQc : Q = H ++ c1 := by
        have : Q ++ [p] = (H ++ c1) ++ [p] := by rw [← hQ, f1, hc1]; simp
        exact List.append_cancel_right this
      have e4 : x :: P = (D ++ c1) ++ p :: d :: B := by rw [e1, f2, hc1]; simp
      have hk2 : W'.cell? ⟨p.blk, p.off + 2, none⟩ = some (nx B) := by
        have hpa := h'.path i hi
        rw [upd_same] at hpa
        have : headE bh i :: (A ++ B) = Q ++ p :: B := by rw [← List.cons_append, hQ]; simp
        rw [this] at hpa
        exact (Path.append hpa).1.k2
      have hbp : p.blk ≠ bt := h.bt_ne hi hpm
      rw [e4] at hp
      have hnew := Path.unlink p d B F hk2 (by intro j hj; simp [hbp]; omega) (D ++ c1) hp (by
        intro y hy j hj
        simp only [List.mem_append] at hy
        rcases hy with (hy | hy) | hy
        · exact hDn _ (hD y hy).1 _
        · exact hap y (by rw [hQc]; simp [hy]) _
        · exact hap y (by simp [hy]) _)
      obtain ⟨R, hR⟩ : ∃ R, (D ++ c1) ++ [p] = x :: R := by
        cases hz : (D ++ c1) ++ [p] with
        | nil => simp at hz
        | cons z R =>
          have : x :: P = z :: (R ++ d :: B) := by rw [e4, ← List.cons_append, ← hz]; simp
          exact ⟨R, by rw [(List.cons.inj this).1]⟩
      have eP : P = R ++ d :: B := by
        have : x :: P = x :: (R ++ d :: B) := by rw [e4, ← List.cons_append, ← hR]; simp
        exact (List.cons.inj this).2
      have eN : (D ++ c1) ++ p :: B = x :: (R ++ B) := by rw [← List.cons_append, ← hR]; simp
      rw [eN] at hnew
      refine ⟨R ++ B, ⟨D, H, c ++ B, by rw [← eN, hc1]; simp, by rw [upd_same, ← List.cons_append, f1]; simp, hnew, hD', hH⟩, ?_⟩
      rw [eP]
      refine ⟨by simp, fun y hy => by simp at hy ⊢; rcases hy with hy | hy <;> simp [hy], fun y hy hne => ?_⟩
      simp at hy ⊢
      rcases hy with hy | rfl | hy
      · exact .inl hy
      · exact absurd hd hne
      · exact .inr hy
    · -- d is the first of the chain's rest
      refine ⟨P, ⟨D ++ [d], headE bh i :: A, B, by rw [e1, f2]; simp, by rw [upd_same]; rfl, ?_, ?_, by simp⟩, DropR.refl _ _⟩
      · refine hp.fr F fun y hy t _ => ?_
        rw [e1] at hy
        rcases List.mem_append.1 hy with hy | hy
        · exact hDn _ (hD y hy).1 _
        · exact hap y (by rw [f2] at hy; simp at hy ⊢; rcases hy with hy | hy <;> simp [hy]) _
      · intro z hz
        rcases List.mem_append.1 hz with hz | hz
        · exact hD' z hz
        · simp at hz
          subst hz
          have hdm : z ∈ ch i := by rw [hc]; simp
          obtain ⟨cs, hcs⟩ := h.ty_mem hi (x := z) (by simp [hdm])
          refine ⟨?_, cs, (F.blk _ (lt_of_heap hcs) (fun t => hap z (by simp) t)).trans hcs⟩
          rintro (e | e | ⟨j, hj, y, hy, e⟩)
          · exact h.bt_ne hi (x := z) (by simp [hdm]) e
          · exact h.nbh i z hi hdm e
          · have hy2 : y ∈ ch j := by
              by_cases hji : j = i
              · rw [hji, upd_same] at hy
                rw [hji, hc]; simp at hy ⊢; rcases hy with hy | hy <;> simp [hy]
              · rwa [upd_ne _ _ hji] at hy
            have hkk := h.same_blk hj hi hy2 hdm e
            have hji : j = slotOf n k := by rw [← hd, ← hkk]; exact (h.slot j y hj hy2).symm
            refine hk' y.val ((h'.mem _ _).2 ⟨y, by rw [← hji]; exact hy, by rw [hkk, hd], rfl⟩)
    · refine ⟨P, ⟨D, (headE bh i :: A) ++ a, T, e1, by rw [upd_same, f2]; simp, ?_, hD', by simp⟩, DropR.refl _ _⟩
      refine hp.fr F fun y hy t _ => ?_
      rw [e1] at hy
      rcases List.mem_append.1 hy with hy | hy
      · exact hDn _ (hD y hy).1 _
      · exact hap y (by rw [f2]; simp [hy]) _
  · refine ⟨P, ⟨D, H, T, e1, by rw [upd_ne _ _ (Ne.symm his)]; exact e2, ?_, hD', hH⟩, DropR.refl _ _⟩
    refine hp.fr F fun y hy t ht => ?_
    rw [e1] at hy
    rcases List.mem_append.1 hy with hy | hy
    · exact hDn _ (hD y hy).1 _
    · exact h.pred_apart hi hpm hs (hT y hy) (fun e => absurd e.symm his) t ht
end
end Go.Proofs.Ytbmcnfdciogmjaa
