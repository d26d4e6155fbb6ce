/-
  The Move back.
-/
import Derived.Test.YtiedobpgfhmidaaMovA
namespace Go.Proofs.Ytiedobpgfhmidaa
open Go.RowKit
section
variable {B : Nat} {T : Tr}
theorem move_back (hw : Wf B T) (hL : LkB T) {l l2 : List Int} {dir to : Int} {s s2 : ByteArray} (h : T.moveE l dir s to s2 = 0) (hn2 : T.findN to s2 = none) (hrs : right s = true) (hl2 : Ab (T.move l dir s to s2) dir l2) :
    ∃ n, T.findN dir s = some n ∧ (T.move l dir s to s2).findN to s2 = some n ∧ (T.move l dir s to s2).findN dir s = none ∧ (T.move l dir s to s2).moveE l2 to s2 dir s = 0 ∧ (∀ k, ((T.move l dir s to s2).move l2 to s2 dir s).nd k = T.nd k) ∧ (∃ f i, T.nd dir = some f ∧ f.kind = 1 ∧ T.nd to = some i ∧ i.kind = 1) := by
  obtain ⟨f, i, n, h1, h2, h3, h4, h5, h6, h7, h8, h9⟩ := Tr.moveE0 h
  have g1 : getE i.ins s2 = none := by
    simpa [Tr.findN, Tr.dir_some.2 ⟨h3, h4⟩] using hn2
  obtain ⟨x, hx⟩ := hw.k.ent h1 (getE_some h6)
  simp only at hx
  have hdn : dir ≠ n := fun e => by subst e; exact hw.noself h1 (getE_some h6)
  have hkx : T.kindOf n = x.kind := by simp [Tr.kindOf, hx]
  have htn : to ≠ n := fun e => by
    have hxi : x = i := by rw [← e, h3] at hx; cases hx; rfl
    exact (h8 (by rw [hkx, hxi]; exact h4)).1 e
  have hx0 : 0 < x.names := by
    have := cntE_pos hw.k h1 (getE_some h6)
    have := hw.k.num n x hx
    simp only at *
    omega
  have hSf := hw.k.srt dir f h1
  have hSi := hw.k.srt to i h3
  have hmv : T.move l dir s to s2 = (T.give to s2 n).take dir s := by
    have hf : getE (T.insOf dir) s = some n := by simp [Tr.insOf, h1, h6]
    have hio : T.insOf to = i.ins := by simp [Tr.insOf, h3]
    rw [Tr.move, if_pos h]
    simp only [hf, hio, g1]
  rw [hmv] at hl2 ⊢
  have hnd := fun k => Tr.shift_nd h1 h6 h3 hSi g1 hx hx0 hdn k
  generalize (T.give to s2 n).take dir s = T2 at *
  have hss : dir = to → s2 ≠ s := fun e e2 => by
    rw [e, h3] at h1; cases h1
    rw [e2, h6] at g1; cases g1
  -- the nodes behind the first Move
  obtain ⟨fi, hfi⟩ : ∃ fi, fi = delE (if dir = to then putE f.ins s2 n else f.ins) s := ⟨_, rfl⟩
  have e2d : T2.nd dir = some { f with ins := fi } := by rw [hnd, if_neg hdn, if_pos rfl, hfi]
  have hgs : getE fi s = none := by
    rw [hfi]
    by_cases e : dir = to
    · rw [if_pos e]
      have hif : f = i := by rw [e, h3] at h1; cases h1; rfl
      rw [delE_get (n := n) (hSf.put (by rw [hif]; exact g1) n), if_pos rfl]
      rw [putE_get hSf (by rw [hif]; exact g1), if_neg (fun e' => hss e e'.symm)]
      exact h6
    · rw [if_neg e, delE_get hSf h6, if_pos rfl]
  have hSfi : Srt fi := by
    rw [hfi]
    by_cases e : dir = to
    · rw [if_pos e]
      have hif : f = i := by rw [e, h3] at h1; cases h1; rfl
      exact (hSf.put (by rw [hif]; exact g1) n).del s
    · rw [if_neg e]; exact hSf.del s
  obtain ⟨i2, e2t, ki2, gi2, si2⟩ : ∃ i2, T2.nd to = some i2 ∧ i2.kind = 1 ∧ getE i2.ins s2 = some n ∧ Srt i2.ins := by
    by_cases e : dir = to
    · have hif : f = i := by rw [e, h3] at h1; cases h1; rfl
      refine ⟨{ f with ins := fi }, by rw [← e]; exact e2d, h2, ?_, hSfi⟩
      simp only [hfi, if_pos e]
      rw [delE_get (n := n) (hSf.put (by rw [hif]; exact g1) n), if_neg (hss e), putE_get hSf (by rw [hif]; exact g1), if_pos rfl]
      rw [putE_get hSf (by rw [hif]; exact g1), if_neg (fun e' => hss e e'.symm)]
      exact h6
    · refine ⟨{ i with ins := putE i.ins s2 n }, by rw [hnd, if_neg htn, if_neg (fun e' => e e'.symm), if_pos rfl], h4, ?_, hSi.put g1 n⟩
      simp only
      rw [putE_get hSi g1, if_pos rfl]
  have e2n : T2.nd n = some { x with up := if x.kind = 1 then to else x.up } := by rw [hnd, if_pos rfl]
  have hk2 : T2.kindOf n = x.kind := by simp [Tr.kindOf, e2n]
  have hfn : 0 < f.names := (hw.emp dir f h1 (fun e => by have := getE_some h6; rw [e] at this; simp at this)).2
  have dirD : T2.dir dir = some { f with ins := fi } := Tr.dir_some.2 ⟨e2d, h2⟩
  have dirT : T2.dir to = some i2 := Tr.dir_some.2 ⟨e2t, ki2⟩
  -- n is not above dir
  have hup : x.kind = 1 → n ∉ l2 := by
    intro hk hmem
    obtain ⟨hu1, hu2, hu3⟩ := hw.holder h1 (getE_some h6) hx hk
    obtain ⟨l0, hl0⟩ := hw.chn dir f h1 h2
    have hupn : T.up n = dir := by rw [Tr.up_dir hx hk, if_neg (by omega), hu1]
    have hd0 : dir ≠ 0 := by have := hw.k.key dir f h1; omega
    have hn0 : n ∉ l0 := fun hm => by
      obtain ⟨l', q1, q2⟩ := Ab.split hl0 hm
      cases l' with
      | nil =>
        simp only [Ab] at q1
        rw [hupn] at q1
        rcases q1 with q1 | q1
        · exact hd0 q1
        · exact hdn q1
      | cons u l'' =>
        obtain ⟨q3, _⟩ := q1
        rw [hupn] at q3
        exact hl0.notin (by rw [q3]; exact q2 u (by simp))
    have hno : ∀ k ∈ dir :: l0, k ≠ n := fun k hk' e => by
      rcases List.mem_cons.1 hk' with e' | e'
      · exact hdn (by rw [← e', e])
      · exact hn0 (by rw [← e]; exact e')
    have hcg : Ab T2 dir l0 := by
      refine Ab.congr (fun k => k ∈ dir :: l0) (fun k hk' => ?_) (fun k hk' h0 => Ab.closed hl0 k hk' h0) (by simp) hl0
      have hne := hno k hk'
      simp only [Tr.up, Tr.dir]
      rw [hnd, if_neg hne]
      by_cases e1 : k = dir
      · rw [if_pos e1, e1, h1]; simp [h2]
      · rw [if_neg e1]
        by_cases e2 : k = to
        · rw [if_pos e2, e2, h3]; simp [h4]
        · rw [if_neg e2]
    rw [Ab.uniq hl2 hcg] at hmem
    exact hn0 hmem
  have hlk : ¬ (T2.kindOf n = 1 ∧ to ≠ dir ∧ T2.links { f with ins := fi } = 16) := by
    rintro ⟨q1, q2, q3⟩
    rw [hk2] at q1
    have hb := hL dir f h1 h2
    have hko : ∀ m, T2.kindOf m = T.kindOf m := by
      intro m
      simp only [Tr.kindOf]
      rw [hnd]
      by_cases e1 : m = n
      · rw [if_pos e1, e1, hx]
      · rw [if_neg e1]
        by_cases e2 : m = dir
        · rw [if_pos e2, e2, h1]
        · rw [if_neg e2]
          by_cases e3 : m = to
          · rw [if_pos e3, e3, h3]
          · rw [if_neg e3]
    simp only [Tr.links, h2, hfn, and_self, if_true, hko] at q3 hb
    rw [hfi, if_neg (fun e => q2 e.symm)] at q3
    have := delE_count hSf h6 (fun e => decide (T.kindOf e.2 = 1))
    simp only [hkx, q1, decide_true, if_true] at this
    omega
  have hmE : T2.moveE l2 to s2 dir s = 0 := by
    simp only [Tr.moveE, dirT, dirD, hrs, if_true, gi2, hgs]
    rw [if_neg (by omega), if_neg (by
      rintro ⟨q1, q2 | q2⟩
      · exact hdn q2
      · rw [hk2] at q1; exact hup q1 q2), if_neg hlk]
  refine ⟨n, by simp [Tr.findN, Tr.dir_some.2 ⟨h1, h2⟩, h6], by simp [Tr.findN, dirT, gi2], by simp [Tr.findN, dirD, hgs], hmE, ?_, f, i, h1, h2, h3, h4⟩
  have hmv2 : T2.move l2 to s2 dir s = (T2.give dir s n).take to s2 := by
    have hf : getE (T2.insOf to) s2 = some n := by simp [Tr.insOf, e2t, gi2]
    have hio : T2.insOf dir = fi := by simp [Tr.insOf, e2d]
    rw [Tr.move, if_pos hmE]
    simp only [hf, hio, hgs]
  intro k
  rw [hmv2, Tr.shift_nd e2t gi2 e2d hSfi hgs e2n hx0 htn k]
  by_cases e1 : k = n
  · rw [if_pos e1, e1, hx]
    by_cases hk : x.kind = 1
    · have hu := (hw.holder h1 (getE_some h6) hx hk).1
      simp only [hk, if_true, ← hu]
      cases x
      rw [← hk]
    · simp [hk]
  · rw [if_neg e1]
    by_cases e2 : k = to
    · rw [if_pos e2, e2, h3]
      by_cases e : dir = to
      · have hif : f = i := by rw [e, h3] at h1; cases h1; rfl
        have hi2 : i2 = { f with ins := fi } := by rw [← e, e2d] at e2t; cases e2t; rfl
        rw [hi2]
        simp only [if_pos e.symm]
        rw [hfi, if_pos e, put_del (hSf.put (by rw [hif]; exact g1) n) (by rw [putE_get hSf (by rw [hif]; exact g1), if_neg (fun e' => hss e e'.symm)]; exact h6), del_put hSf (by rw [hif]; exact g1), hif]
      · have hi2 : i2 = { i with ins := putE i.ins s2 n } := by
          rw [hnd, if_neg htn, if_neg (fun e' => e e'.symm), if_pos rfl] at e2t; cases e2t; rfl
        rw [hi2]
        simp only [if_neg (fun e' : to = dir => e e'.symm)]
        rw [del_put hSi g1]
    · rw [if_neg e2]
      by_cases e3 : k = dir
      · have e : dir ≠ to := fun e' => e2 (e3.trans e')
        rw [if_pos e3, e3, h1]
        simp only
        rw [hfi, if_neg e, put_del hSf h6]
      · rw [if_neg e3, hnd, if_neg e1, if_neg e3, if_neg e2]
end
end Go.Proofs.Ytiedobpgfhmidaa
