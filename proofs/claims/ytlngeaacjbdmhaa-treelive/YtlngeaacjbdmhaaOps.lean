/-
  The contracts of File and Drop.
-/
import Derived.Test.YtlngeaacjbdmhaaPool
namespace Go.Proofs.Ytlngeaacjbdmhaa
open Go.RowKit Go.Maps

section
variable {base : Bse} {n : Nat} {W W' : World} {p : Nat} {s : S} {fb : Nat} {cb mb : Int → Nat}
/-- No two of the pool's blocks are one. -/
theorem PlI.ne (h : PlI base n W p s fb cb mb) {k : Int} {x : F} (hk : s.get k = some x) : cb k ≠ p ∧ mb k ≠ p ∧ fb ≠ p ∧ cb k ≠ fb ∧ cb k ≠ mb k := by
  have hx := h.hx k x hk
  refine ⟨fun e => ?_, fun e => ?_, fun e => ?_, fun e => ?_, fun e => ?_⟩
  · have h1 := hx.hc
    rw [e, h.hp] at h1
    simp at h1
  · exact map_blk hx.hm (by rw [e]; exact h.hp)
  · exact map_blk h.hf (by rw [e]; exact h.hp)
  · exact map_blk h.hf (by rw [← e]; exact hx.hc)
  · exact map_blk hx.hm (by rw [← e]; exact hx.hc)
theorem PlI.fp (h : PlI base n W p s fb cb mb) : fb ≠ p := fun e => map_blk h.hf (by rw [e]; exact h.hp)
/-- What is changed of one file, and of what is left. -/
theorem PlI.turn (h : PlI base n W p s fb cb mb) {k : Int} {x y : F} {l : Nat} (hk : s.get k = some x) (F : Fr [p, cb k, mb k] W W')
    (hp : W'.heap[p]? = some (.cells #[I (l : Int), I s.fs.length, .map (some fb)] 86)) (hy : Fl W' (cb k) (mb k) y) (ht : l + y.used = s.left + x.used) : PlI base n W' p (s.put k (some y) l) fb cb mb ∧ Nx base W W' := by
  have hne := h.ne hk
  have hg := fun j => S.get_put hk (some y) l j
  obtain ⟨k1, k2⟩ := S.get_at hk
  refine ⟨⟨?_, ?_, ?_, ?_, ?_, ?_, h.bs.mono F.size, ?_, h.nn⟩, .of_fr F h.bs ?_⟩
  · rw [hp]; simp [S.put]
  · have h1 : Mp W' fb s.fs.length _ := h.hf.fr F (by simp [hne.2.2.1, hne.2.2.2.1.symm, (h.df k x hk).symm])
    have : (s.put k (some y) l).fs.length = s.fs.length := by simp [S.put]
    rw [this]
    refine h1.congr fun j => ?_
    rw [hg]
    by_cases e : j = k
    · subst e; simp [hk]
    · simp [e]
  · intro j z hz
    rw [hg] at hz
    by_cases e : j = k
    · subst e
      simp at hz
      subst hz
      exact hy
    · rw [if_neg e] at hz
      have hn2 := h.ne hz
      have hd := h.dc j k z x hz hk e
      refine (h.hx j z hz).fr F ?_ ?_
      · simp only [List.mem_cons, List.not_mem_nil, or_false, not_or]
        refine ⟨hn2.1, hd.1, fun e2 => map_blk (h.hx k x hk).hm (by rw [← e2]; exact (h.hx j z hz).hc)⟩
      · simp only [List.mem_cons, List.not_mem_nil, or_false, not_or]
        refine ⟨hn2.2.1, fun e2 => map_blk (h.hx j z hz).hm (by rw [e2]; exact (h.hx k x hk).hc), hd.2⟩
  · intro i j z v hz hv
    rw [hg] at hz hv
    by_cases e : i = k
    · by_cases e2 : j = k
      · intro h'; exact absurd (e.trans e2.symm) h'
      · rw [if_neg e2] at hv
        subst e
        exact h.dc i j x v hk hv
    · rw [if_neg e] at hz
      by_cases e2 : j = k
      · subst e2
        exact h.dc i j z x hz hk
      · rw [if_neg e2] at hv
        exact h.dc i j z v hz hv
  · intro j z hz
    rw [hg] at hz
    by_cases e : j = k
    · subst e; exact h.df j x hk
    · rw [if_neg e] at hz
      exact h.df j z hz
  · refine ⟨h.bp.1, h.bp.2.1, fun j z hz => ?_⟩
    rw [hg] at hz
    by_cases e : j = k
    · subst e; exact h.bp.2.2 j x hk
    · rw [if_neg e] at hz
      exact h.bp.2.2 j z hz
  · have := total_set s.fs _ _ (some y) k2
    have := h.tot
    simp only [S.put, usedO] at *
    omega
  · intro b hb
    simp only [List.mem_cons, List.not_mem_nil, or_false] at hb
    rcases hb with rfl | rfl | rfl
    · exact ⟨h.bp.1, fun cs t f e => by rw [h.hp] at e; cases e; exact .inl rfl⟩
    · exact ⟨(h.bp.2.2 k x hk).1, fun cs t f e => by rw [(h.hx k x hk).hc] at e; cases e; exact .inr rfl⟩
    · exact ⟨(h.bp.2.2 k x hk).2, fun cs t f e => (map_blk (h.hx k x hk).hm e).elim⟩
end
set_option maxHeartbeats 1000000 in
theorem file_any {base : Bse} {n : Nat} {W : World} {p : Nat} {s : S} (h : Pl base n W p s) (hl : s.fs.length < 1000000) :
    Calls Try.prog 38 #[P0 p] W fun e w' => e = .returned (I ((s.fs.length + 1 : Nat) : Int)) ∧ Pl base n w' p s.add ∧ Nx base W w' := by
  obtain ⟨fb, cb, mb, h⟩ := h
  obtain ⟨c0, c1, c2, cf⟩ := h.cells
  have hmm := @run_makeMap Try.prog
  obtain ⟨L, hL⟩ : ∃ L : Nat, L = s.fs.length := ⟨_, rfl⟩
  have l1 : (L : Int) < 1000000 := by omega
  rw [← hL] at c1
  have H := hide h
  have HL := hide hL
  clear h
  obtain ⟨w1, hw1⟩ : ∃ w1, w1 = W.setCell ⟨p, 1, none⟩ (I ((L : Int) + 1)) := ⟨_, rfl⟩
  have hp1 : w1.heap[p]? = some (.cells #[I s.left, I ((L : Int) + 1), .map (some fb)] 86) := by rw [hw1, heap_set (unhide H).hp]; rfl
  have F1 : Fr [p] W w1 := by rw [hw1]; exact (Fr.refl _ W).set (by simp) _
  have k1 : w1.cell? ⟨p, 1, none⟩ = some (I ((L : Int) + 1)) := by rw [cell_of hp1]; rfl
  have k2 : w1.cell? ⟨p, 2, none⟩ = some (.map (some fb)) := by rw [cell_of hp1]; rfl
  have hpa : ∀ o o', ((w1.alloc o).alloc o').heap[p]? = some (.cells #[I s.left, I ((L : Int) + 1), .map (some fb)] 86) := fun o o' => by
    rw [Below.heap_alloc _ _ _ (by have := lt_of_heap hp1; simp; omega), Below.heap_alloc _ _ _ (lt_of_heap hp1)]
    exact hp1
  have ka1 : ∀ o o', ((w1.alloc o).alloc o').cell? ⟨p, 1, none⟩ = some (I ((L : Int) + 1)) := fun o o' => by rw [cell_of (hpa o o')]; rfl
  have ka2 : ∀ o o', ((w1.alloc o).alloc o').cell? ⟨p, 2, none⟩ = some (.map (some fb)) := fun o o' => by rw [cell_of (hpa o o')]; rfl
  have hpb : ∀ o, (w1.alloc o).heap[p]? = some (.cells #[I s.left, I ((L : Int) + 1), .map (some fb)] 86) := fun o => by
    rw [Below.heap_alloc _ _ _ (lt_of_heap hp1)]
    exact hp1
  have kb1 : ∀ o, (w1.alloc o).cell? ⟨p, 1, none⟩ = some (I ((L : Int) + 1)) := fun o => by rw [cell_of (hpb o)]; rfl
  have kb2 : ∀ o, (w1.alloc o).cell? ⟨p, 2, none⟩ = some (.map (some fb)) := fun o => by rw [cell_of (hpb o)]; rfl
  have hM := (unhide H).hf.fr F1 (by simpa using (unhide H).fp)
  have hM2 := ((hM.alloc (.map #[] 0)).alloc (.cells #[I 0, .map (some w1.heap.size)] 99)).drew
  obtain ⟨w3, hrun, M3, F3, hs3⟩ := hM2.store ht51 (by rw [← hL]; unfold maxLen; omega) (k := (L : Int) + 1) (wf_of (by omega)) (P0 (w1.heap.size + 1))
  have hp3 : w3.heap[p]? = some (.cells #[I s.left, I ((L : Int) + 1), .map (some fb)] 86) := by
    rw [F3.blk p (by have := lt_of_heap hp1; simp; omega) (by simpa using (unhide H).fp.symm)]
    exact hpa _ _
  have hk3 : w3.cell? ⟨p, 1, none⟩ = some (I ((L : Int) + 1)) := by rw [cell_of hp3]; rfl
  have HM3 := hide M3
  have HF3 := hide F3
  have HF1 := hide F1
  have HP3 := hide hp3
  have HW1 := hide hw1
  have HS3 := hide hs3
  clear M3 F3 F1 hp1 hp3 hM hM2 hs3 hw1 hL hpa hpb
  go_enter Try.func38, Try.ntmps38
  go_wp2_with fail
  rw [show W.setCell ⟨p, 1, none⟩ (Value.int IntKind.i64 ((L : Int) + 1)) = w1 from (unhide HW1).symm]
  go_region
  go_wp2_with fail
  go_ret
  have hL := unhide HL
  have hh := unhide H
  have F1 := unhide HF1
  have F3 := unhide HF3
  have hb1 := F1.size
  have hfl := hh.hf.lt
  have FT : Fr [p, fb] W w3 := (((F1.mono (by simp)).alloc _).alloc _).drew.trans (F3.mono (by simp))
  refine ⟨by rw [hL]; rfl, ?_, ?_⟩
  · have hg := S.get_add s
    have hpos : ∀ k x, s.get k = some x → k ≠ (s.fs.length : Int) + 1 := fun k x hk e => by have := S.get_lt hk; omega
    refine ⟨fb, fun k => if k = (s.fs.length : Int) + 1 then w1.heap.size + 1 else cb k, fun k => if k = (s.fs.length : Int) + 1 then w1.heap.size else mb k, ?_, ?_, ?_, ?_, ?_, ?_, hh.bs.mono FT.size, ?_, hh.nn⟩
    · rw [unhide HP3, hL]; simp [S.add]
    · have hM := unhide HM3
      have : s.add.fs.length = s.fs.length + 1 := by simp [S.add]
      rw [this]
      refine hM.congr fun k => ?_
      simp only [upd]
      rw [hg, hL]
      by_cases e : k = (s.fs.length : Int) + 1
      · simp [e]
      · simp [e]
    · intro k x hk
      rw [hg] at hk
      by_cases e : k = (s.fs.length : Int) + 1
      · rw [if_pos e] at hk
        cases hk
        simp only [if_pos e]
        refine ⟨?_, ?_, F.empty_ok⟩
        · rw [F3.blk _ (by simp) (by simp; omega)]
          have := heap_alloc_new (w1.alloc (.map #[] 0)) (.cells #[I 0, .map (some w1.heap.size)] 99)
          simp only [World.size_alloc] at this
          exact this
        · refine (((((Mp.made w1).alloc _).drew).fr F3 (by simp; omega)).mono (by omega)).congr fun k => ?_
          simp [bk, F.empty]
      · rw [if_neg e] at hk
        simp only [if_neg e]
        have hn := hh.ne hk
        exact (hh.hx k x hk).fr FT (by simp [hn.1, hn.2.2.2.1]) (by simp [hn.2.1, hh.df k x hk])
    · intro i j z v hz hv hij
      rw [hg] at hz hv
      by_cases e : i = (s.fs.length : Int) + 1
      · by_cases e2 : j = (s.fs.length : Int) + 1
        · exact absurd (e.trans e2.symm) hij
        · rw [if_neg e2] at hv
          have h1 := lt_of_heap (hh.hx j v hv).hc
          have h2 := (hh.hx j v hv).hm.lt
          simp only [if_pos e, if_neg e2]
          omega
      · rw [if_neg e] at hz
        by_cases e2 : j = (s.fs.length : Int) + 1
        · have h1 := lt_of_heap (hh.hx i z hz).hc
          have h2 := (hh.hx i z hz).hm.lt
          simp only [if_neg e, if_pos e2]
          omega
        · rw [if_neg e2] at hv
          simp only [if_neg e, if_neg e2]
          exact hh.dc i j z v hz hv hij
    · intro k x hk
      rw [hg] at hk
      by_cases e : k = (s.fs.length : Int) + 1
      · simp only [if_pos e]
        omega
      · rw [if_neg e] at hk
        simp only [if_neg e]
        exact hh.df k x hk
    · refine ⟨hh.bp.1, hh.bp.2.1, fun k x hk => ?_⟩
      have := hh.bs
      rw [hg] at hk
      by_cases e : k = (s.fs.length : Int) + 1
      · simp only [if_pos e]
        exact ⟨this.new (by omega), this.new (by omega)⟩
      · rw [if_neg e] at hk
        simp only [if_neg e]
        exact hh.bp.2.2 k x hk
    · have h0 : usedO (some F.empty) = 0 := cnt_none fun k _ => rfl
      have := hh.tot
      simp only [S.add]
      rw [total_append, h0]
      omega
  · refine .of_fr FT hh.bs fun b hb => ?_
    simp only [List.mem_cons, List.not_mem_nil, or_false] at hb
    rcases hb with rfl | rfl
    · exact ⟨hh.bp.1, fun cs t f e => by rw [hh.hp] at e; cases e; exact .inl rfl⟩
    · exact ⟨hh.bp.2.1, fun cs t f e => (map_blk hh.hf e).elim⟩
end Go.Proofs.Ytlngeaacjbdmhaa
