/-
  The writers and readers that a law lays: how they begin; how much is still to happen; Within at one argument answers one number.
-/
import Derived.Test.YtkgeapmafpeapaaPairsD
namespace Go.Proofs.Ytkgeapmafpeapaa
open Go.RowKit

set_option maxHeartbeats 400000 in
theorem within_neg (v hi : Int) (w : World) (h0 : 0 ≤ hi) (h1 : hi ≤ 1000) (hn : v.tmod (hi + 1) < 0) :
    Calls Try.prog 15 #[.int .i64 v, .int .i64 0, .int .i64 hi] w fun e w' => e = .returned (.int .i64 (v.tmod (hi + 1) + hi + 1)) ∧ w' = w := by
  have t2 : -(hi + 1) < v.tmod (hi + 1) := by
    have h := Int.tmod_lt_of_pos (-v) (show 0 < hi + 1 by omega)
    rw [Int.neg_tmod] at h
    omega
  have t3 : ¬ hi + 1 = 0 := by omega
  go_enter Try.func15, Try.ntmps15
  go_wp2
  go_ret
  exact ⟨rfl, rfl⟩
set_option maxHeartbeats 400000 in
theorem within_pos (v hi : Int) (w : World) (h0 : 0 ≤ hi) (h1 : hi ≤ 1000) (hn : ¬ v.tmod (hi + 1) < 0) :
    Calls Try.prog 15 #[.int .i64 v, .int .i64 0, .int .i64 hi] w fun e w' => e = .returned (.int .i64 (v.tmod (hi + 1))) ∧ w' = w := by
  have t1 : v.tmod (hi + 1) < hi + 1 := Int.tmod_lt_of_pos v (by omega)
  have t3 : ¬ hi + 1 = 0 := by omega
  go_enter Try.func15, Try.ntmps15
  go_wp2
  go_ret
  exact ⟨rfl, rfl⟩
theorem within_det (v hi : Int) (h0 : 0 ≤ hi) (h1 : hi ≤ 1000) : ∃ r : Int, 0 ≤ r ∧ r ≤ hi ∧ ∀ w, Calls Try.prog 15 #[.int .i64 v, .int .i64 0, .int .i64 hi] w fun e w' => e = .returned (.int .i64 r) ∧ w' = w := by
  have t1 : v.tmod (hi + 1) < hi + 1 := Int.tmod_lt_of_pos v (by omega)
  have t2 : -(hi + 1) < v.tmod (hi + 1) := by
    have h := Int.tmod_lt_of_pos (-v) (show 0 < hi + 1 by omega)
    rw [Int.neg_tmod] at h
    omega
  by_cases hn : v.tmod (hi + 1) < 0
  · exact ⟨_, by omega, by omega, fun w => within_neg v hi w h0 h1 hn⟩
  · exact ⟨_, by omega, by omega, fun w => within_pos v hi w h0 h1 hn⟩

theorem JobsAt.of_ownsB {W : World} {base l : Nat} {v : Value} {js : List Jb} (hl : js.length = l) (h : W.ownsRow base 30 5 v l (rowsOf Jb.row js)) : ∃ pa cap, v = .slice pa l cap ∧ JobsAt W pa js ∧ ∀ a : Addr, pa = some a → base ≤ a.block := by
  obtain ⟨pa, cap, rfl, hJ⟩ := JobsAt.of_ownsL hl h
  refine ⟨pa, cap, rfl, hJ, ?_⟩
  rintro a rfl
  obtain ⟨-, ⟨e, hz⟩ | ⟨g, cap', cur, e, hgb, _⟩⟩ := h
  · cases e
  · cases e; exact hgb
theorem JobsAt.frm {b c : Nat} {W W' : World} {pa : Option Addr} {js : List Jb} (h : JobsAt W pa js) (g : Frm b c W W') (hne : ∀ a : Addr, pa = some a → a.block ≠ b ∧ a.block ≠ c) : JobsAt W' pa js := by
  intro k j hj
  obtain ⟨jb, jo, e, hl, c0, c1, c2, c3, c4⟩ := h k j hj
  obtain ⟨n1, n2⟩ := hne _ e
  have z := g.size
  have hb : ∀ o v, W.cell? ⟨jb, o, none⟩ = some v → W'.cell? ⟨jb, o, none⟩ = some v := fun o v hv => (World.cell?_of_block (w := W) (a := ⟨jb, o, none⟩) (g.block jb hl n1 n2)).trans hv
  exact ⟨jb, jo, e, by omega, hb _ _ c0, hb _ _ c1, hb _ _ c2, hb _ _ c3, hb _ _ c4⟩

theorem wrap_small2 (x : Int) (h0 : -10000 ≤ x) (h1 : x ≤ 10000) : IntKind.i64.wrap x = x := by rw [IntKind.wrap_i64]; omega

def jobAt (nw W i : Nat) : Jb := if i < nw then ⟨2, 0, W, 10 + (i : Int), 110 + (i : Int)⟩ else ⟨3, 0, W, 0, 0⟩
def pjobs (nw W k : Nat) : List Jb := (List.range k).map (jobAt nw W)
theorem pjobs_length (nw W k : Nat) : (pjobs nw W k).length = k := by simp [pjobs]
theorem pjobs_succ (nw W k : Nat) : pjobs nw W (k + 1) = pjobs nw W k ++ [jobAt nw W k] := by simp [pjobs, List.range_succ]
theorem pjobs_get {nw W n i : Nat} {j : Jb} (h : (pjobs nw W n)[i]? = some j) : i < n ∧ j = jobAt nw W i := by
  simp [pjobs, List.getElem?_map] at h
  obtain ⟨a, h1, h2⟩ := h
  have := List.getElem?_eq_some_iff.1 h1
  obtain ⟨h3, h4⟩ := this
  simp at h3 h4
  subst h4
  exact ⟨h3, h2.symm⟩
theorem pjobs_fit {nw W n i : Nat} {j : Jb} (hw : W ≤ 5) (h : (pjobs nw W n)[i]? = some j) : j.fit ((3 : Nat) : Int) := by
  obtain ⟨_, rfl⟩ := pjobs_get h
  unfold jobAt Jb.fit
  split <;> simp <;> omega
theorem machs_pjobs (nw W n : Nat) : machs (pjobs nw W n) = (List.range n).map (fun i => (jobAt nw W i).mach i) := by
  apply List.ext_getElem?
  intro i
  simp only [machs, pjobs, List.getElem?_mapIdx, List.getElem?_map]
  cases h : (List.range n)[i]? with
  | none => rfl
  | some x =>
    obtain ⟨h1, h2⟩ := List.getElem?_eq_some_iff.1 h
    simp at h2
    subst h2
    rfl
theorem cw_pjobs (nw W n : Nat) (h : nw ≤ n) : cw (machs (pjobs nw W n)) = nw := by
  have key : ∀ m, (List.range m).countP (fun i => decide (i < nw)) = min m nw := by
    intro m
    induction m with
    | zero => simp
    | succ m ih =>
      rw [List.range_succ, List.countP_append, ih]
      by_cases hm : m < nw
      · simp [hm]; omega
      · simp [hm]; omega
  rw [machs_pjobs]
  unfold cw
  rw [List.countP_map]
  have e : (fun M : Mach => M.kind == 2 && !M.done) ∘ (fun i => (jobAt nw W i).mach i) = fun i => decide (i < nw) := by
    funext i
    simp only [Function.comp, Jb.mach, jobAt]
    by_cases hi : i < nw
    · simp [hi]
    · simp [hi]
  rw [e, key]
  omega

theorem PInv.start (nw nr W : Nat) : PInv nw (nw + nr) W (machs (pjobs nw W (nw + nr)), [0, 0, 100]) := by
  refine ⟨by rw [machs_length, pjobs_length], rfl, by simp, by simp, ?_, ?_, .inl ⟨by simp, by simp, ?_, ?_⟩⟩
  · intro i M hM hi
    obtain ⟨j, hj, rfl⟩ := machs_get hM
    obtain ⟨_, rfl⟩ := pjobs_get hj
    unfold jobAt
    rw [if_pos hi]
    exact ⟨rfl, rfl, rfl, rfl, rfl, by simp [Jb.mach], by simp [Jb.mach], fun _ => .inl rfl⟩
  · intro i M hM hi
    obtain ⟨j, hj, rfl⟩ := machs_get hM
    obtain ⟨_, rfl⟩ := pjobs_get hj
    unfold jobAt
    rw [if_neg hi]
    exact ⟨rfl, rfl, rfl, by simp [Jb.mach], by simp [Jb.mach], fun _ => .inl rfl, fun h => by simp [Jb.mach] at h⟩
  · simp only []
    rw [cw_pjobs nw W (nw + nr) (by omega)]
    simp
  · intro i M hM
    obtain ⟨j, hj, rfl⟩ := machs_get hM
    exact not_ins (.inl rfl)

theorem PInv.ev {nw nr W : Nat} {S : State} (h : PInv nw (nw + nr) W S) : pEv S ≤ 2 * nw + nr := by
  have h1 : cw S.1 ≤ nw := by
    have := h.c0
    rcases h.mode with ⟨_, _, m3, _⟩ | ⟨_, m2, _⟩ <;> omega
  have h2 : cr S.1 ≤ nr := by
    unfold cr
    rw [← List.take_append_drop nw S.1, List.countP_append]
    have e1 : (S.1.take nw).countP (fun M => M.kind == 3 && !M.done) = 0 := by
      rw [List.countP_eq_zero]
      intro M hM
      obtain ⟨i, hi⟩ := List.mem_iff_getElem?.1 hM
      have hi2 : i < nw := by
        have := (List.getElem?_eq_some_iff.1 hi).1
        simp at this; omega
      rw [List.getElem?_take_of_lt hi2] at hi
      have := (h.wr i M hi hi2).kind
      simp [this]
    have e2 := List.countP_le_length (p := fun M : Mach => M.kind == 3 && !M.done) (l := S.1.drop nw)
    have := h.len
    simp at e2
    omega
  unfold pEv
  omega
theorem PInv.fin {nw nr W : Nat} {S : State} (h : PInv nw (nw + nr) W S) (ho : opn S.1 = []) : S.2.getD 0 0 = 2 * nw ∧ S.2.getD 2 0 = S.2.getD 1 0 + 100 := by
  have hz : cw S.1 = 0 := by
    unfold cw
    rw [List.countP_eq_zero]
    intro M hM
    obtain ⟨i, hi⟩ := List.mem_iff_getElem?.1 hM
    simp [all_done ho hi]
  rcases h.mode with ⟨_, m2, m3, _⟩ | ⟨_, m2, i, M, m3, m4, _⟩
  · exact ⟨by omega, m2⟩
  · have := all_done ho m3
    rw [m4.ins.2.1] at this
    cases this
end Go.Proofs.Ytkgeapmafpeapaa
