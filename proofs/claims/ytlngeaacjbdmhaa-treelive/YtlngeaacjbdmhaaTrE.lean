/-
  What Make, Join and Part leave.
-/
import Derived.Test.YtlngeaacjbdmhaaTrD
namespace Go.Proofs.Ytlngeaacjbdmhaa
open Go.RowKit Go.Maps

section
variable {B : Nat} {T : Tr}
theorem right_size {s : ByteArray} (h : right s = true) : s.size ≤ 255 := by
  simp only [right, Bool.and_eq_true, Bool.not_eq_true', Bool.or_eq_false_iff, decide_eq_false_iff_not] at h
  have h2 := h.1.1.2
  have e : s.size = s.data.toList.length := rfl
  rw [e]
  exact Nat.le_of_not_lt h2
theorem fits_kind {kind : Int} {text : ByteArray} (h : fitsB kind text = true) : 1 ≤ kind ∧ kind ≤ 3 := by
  simp only [fitsB] at h
  split at h
  · omega
  · simp at h; omega
theorem refuses0 {d : Nd} {s : ByteArray} (h : refusesE d s = 0) : getE d.ins s = none ∧ 0 < d.names := by
  simp only [refusesE] at h
  split at h
  · omega
  · split at h
    · omega
    · rename_i h1 h2
      exact ⟨by simpa using h1, by omega⟩
/-- What a Make that is done went by. -/
theorem Tr.makeE0 {dir : Int} {s : ByteArray} {kind : Int} {text : ByteArray} (h : T.makeE dir s kind text = 0) : ∃ d, T.nd dir = some d ∧ d.kind = 1 ∧ getE d.ins s = none ∧ 0 < d.names ∧ right s = true ∧ (1 ≤ kind ∧ kind ≤ 3) ∧ T.left ≠ 0 := by
  simp only [Tr.makeE] at h
  cases hx : T.dir dir with
  | none => rw [hx] at h; simp at h
  | some d =>
    rw [hx] at h
    simp only at h
    obtain ⟨h1, h2⟩ := Tr.dir_some.1 hx
    by_cases hr : right s = true ∧ fitsB kind text = true
    · rw [if_pos hr] at h
      by_cases hf : refusesE d s = 0
      · rw [if_neg (by simpa using hf)] at h
        obtain ⟨g1, g2⟩ := refuses0 hf
        by_cases hl : kind = 1 ∧ T.links d = 16
        · rw [if_pos hl] at h; omega
        · rw [if_neg hl] at h
          by_cases hz : T.left = 0
          · rw [if_pos hz] at h; omega
          · exact ⟨d, h1, h2, g1, g2, hr.1, fits_kind hr.2, hz⟩
      · rw [if_pos hf] at h; exact absurd h hf
    · rw [if_neg hr] at h; omega
theorem Tr.make_nd (hw : Wk B T) {dir : Int} {s : ByteArray} {kind mode uid gid : Int} {text : ByteArray} (h : T.makeE dir s kind text = 0) {d : Nd} (hd : T.nd dir = some d) (k : Int) : (T.make dir s kind mode uid gid text).nd k = if k = (T.made : Int) + 1 then some ⟨kind, bits .and .i64 mode 4095, uid, gid, 1, 0, if kind = 1 then dir else 0, [], if kind = 2 then (T.pool.fs.length : Int) + 1 else 0, text⟩ else if k = dir then some { d with ins := putE d.ins s ((T.made : Int) + 1) } else T.nd k := by
  have hk := hw.key dir d hd
  have hd5 : (T.add kind mode uid gid text).nd dir = some d := by simp only [Tr.add]; rw [if_neg (by omega)]; exact hd
  have hn5 : (T.add kind mode uid gid text).nd ((T.made : Int) + 1) = some ⟨kind, bits .and .i64 mode 4095, uid, gid, 0, 0, 0, [], if kind = 2 then (T.pool.fs.length : Int) + 1 else 0, text⟩ := by simp [Tr.add]
  rw [Tr.make, if_pos h, Tr.give_nd hd5 hn5]
  by_cases e : k = (T.made : Int) + 1
  · rw [if_pos e, if_pos e]; rfl
  · rw [if_neg e, if_neg e]
    by_cases e2 : k = dir
    · rw [if_pos e2, if_pos e2]
    · rw [if_neg e2, if_neg e2]
      simp only [Tr.add]
      rw [if_neg e]
theorem Wf.make (hw : Wf B T) (dir : Int) (s : ByteArray) (kind mode uid gid : Int) (text : ByteArray) (ht : text.size ≤ 281474976710656) : Wf (B + 2) (T.make dir s kind mode uid gid text) := by
  by_cases h : T.makeE dir s kind text = 0
  · obtain ⟨d, hd, hdk, hg, hdn, hr, hkk, _⟩ := Tr.makeE0 h
    have hnd := fun k => Tr.make_nd (mode := mode) (uid := uid) (gid := gid) hw.k h hd k
    have hkey := hw.k.key dir d hd
    have hm1 := hw.made1
    have hWk : Wk (B + 2) (T.make dir s kind mode uid gid text) := by
      have h1 := hw.k.add hm1 mode uid gid text hkk ht
      have hd5 : (T.add kind mode uid gid text).nd dir = some d := by simp only [Tr.add]; rw [if_neg (by omega)]; exact hd
      have hn5 : (T.add kind mode uid gid text).nd ((T.made : Int) + 1) = some ⟨kind, bits .and .i64 mode 4095, uid, gid, 0, 0, 0, [], if kind = 2 then (T.pool.fs.length : Int) + 1 else 0, text⟩ := by simp [Tr.add]
      rw [Tr.make, if_pos h]
      exact h1.give hd5 hn5 (by omega) hg (right_size hr)
    have hlive : ∀ k z, T.nd k = some z → k ≠ (T.made : Int) + 1 := fun k z hk => by have := hw.k.key k z hk; omega
    have old : ∀ k z, (T.make dir s kind mode uid gid text).nd k = some z → (k = (T.made : Int) + 1 ∧ z = ⟨kind, bits .and .i64 mode 4095, uid, gid, 1, 0, if kind = 1 then dir else 0, [], if kind = 2 then (T.pool.fs.length : Int) + 1 else 0, text⟩) ∨ (k ≠ (T.made : Int) + 1 ∧ k = dir ∧ z = { d with ins := putE d.ins s ((T.made : Int) + 1) }) ∨ (k ≠ (T.made : Int) + 1 ∧ k ≠ dir ∧ T.nd k = some z) := fun k z hz => by
      rw [hnd] at hz
      by_cases e : k = (T.made : Int) + 1
      · rw [if_pos e] at hz; cases hz; exact .inl ⟨e, rfl⟩
      · rw [if_neg e] at hz
        by_cases e2 : k = dir
        · rw [if_pos e2] at hz; cases hz; exact .inr (.inl ⟨e, e2, rfl⟩)
        · rw [if_neg e2] at hz; exact .inr (.inr ⟨e, e2, hz⟩)
    have keep : ∀ u z, T.nd u = some z → ∃ z', (T.make dir s kind mode uid gid text).nd u = some z' ∧ (∀ e ∈ z.ins, e ∈ z'.ins) := fun u z hz => by
      rw [hnd, if_neg (hlive u z hz)]
      by_cases e2 : u = dir
      · subst e2; rw [hd] at hz; cases hz
        exact ⟨_, by rw [if_pos rfl], fun e he => putE_mem.2 (.inr he)⟩
      · exact ⟨z, by rw [if_neg e2]; exact hz, fun e he => he⟩
    have hup : ∀ k, k ≠ (T.made : Int) + 1 → (T.make dir s kind mode uid gid text).up k = T.up k := fun k e => by
      simp only [Tr.up, Tr.dir, hnd, if_neg e]
      by_cases e2 : k = dir
      · rw [if_pos e2, e2, hd]
        by_cases hk : d.kind = 1 <;> simp [hk]
      · rw [if_neg e2]
    have hun : ∀ k, k ≠ (T.made : Int) + 1 → T.up k ≠ 0 → T.up k ≠ (T.made : Int) + 1 := fun k hk _ => by
      rcases hw.up_cases k with h1 | h1 | ⟨d', s', h1, h2⟩
      · omega
      · rw [h1]; exact hk
      · exact hlive _ d' h1
    refine ⟨hWk, ?_, fun k z hz hk => ?_, fun k z hz hk h1 hp => ?_, fun k z hz hi => ?_, fun k z hz hk => ?_, fun k z hz => ?_⟩
    · obtain ⟨r, g1, g2, g3, g4⟩ := hw.root
      by_cases e : (1 : Int) = dir
      · rw [← e, g1] at hd; cases hd
        exact ⟨{ d with ins := putE d.ins s ((T.made : Int) + 1) }, by rw [hnd, if_neg (by omega), if_pos e], g2, g3, g4⟩
      · exact ⟨r, by rw [hnd, if_neg (by omega), if_neg e]; exact g1, g2, g3, g4⟩
    · rcases old k z hz with ⟨rfl, rfl⟩ | ⟨_, rfl, rfl⟩ | ⟨_, _, hz⟩
      · exact Nat.le_refl _
      · exact hw.one k d hd hk
      · exact hw.one k z hz hk
    · have key : ∀ z0, T.nd k = some z0 → z0.kind = 1 → 0 < z0.names → z0.up = z.up → z.up ≠ k ∧ ∃ d0 s0, (T.make dir s kind mode uid gid text).nd z.up = some d0 ∧ (s0, k) ∈ d0.ins := fun z0 h0 hk0 hp0 hu => by
        obtain ⟨u1, d', s', u2, u3⟩ := hw.upd k z0 h0 hk0 h1 hp0
        rw [hu] at u1 u2
        obtain ⟨z', w1, w2⟩ := keep _ d' u2
        exact ⟨u1, z', s', w1, w2 _ u3⟩
      rcases old k z hz with ⟨rfl, rfl⟩ | ⟨_, rfl, rfl⟩ | ⟨_, _, hz⟩
      · simp only at hk
        subst hk
        simp only [if_true]
        refine ⟨by omega, { d with ins := putE d.ins s ((T.made : Int) + 1) }, s, ?_, putE_mem.2 (.inl rfl)⟩
        rw [hnd, if_neg (by omega), if_pos rfl]
      · exact key d hd hk hp rfl
      · exact key z hz hk hp rfl
    · rcases old k z hz with ⟨rfl, rfl⟩ | ⟨_, rfl, rfl⟩ | ⟨_, _, hz⟩
      · exact absurd rfl hi
      · exact ⟨hdk, hdn⟩
      · exact hw.emp k z hz hi
    · by_cases e : k = (T.made : Int) + 1
      · subst e
        rcases old _ z hz with ⟨_, rfl⟩ | ⟨h', _⟩ | ⟨h', _⟩
        · simp only at hk
          subst hk
          obtain ⟨l, hl⟩ := hw.chn dir d hd hdk
          refine ⟨dir :: l, ?_, by omega, by omega, Ab.congr (fun k => k ≠ (T.made : Int) + 1) hup hun (by omega) hl⟩
          rw [Tr.up_dir hz rfl]
          simp
        · exact absurd rfl h'
        · exact absurd rfl h'
      · have : ∃ z0, T.nd k = some z0 ∧ z0.kind = 1 := by
          rcases old k z hz with ⟨h', _⟩ | ⟨_, rfl, rfl⟩ | ⟨_, _, hz⟩
          · exact absurd h' e
          · exact ⟨d, hd, hk⟩
          · exact ⟨z, hz, hk⟩
        obtain ⟨z0, h0, hk0⟩ := this
        obtain ⟨l, hl⟩ := hw.chn k z0 h0 hk0
        exact ⟨l, Ab.congr (fun k => k ≠ (T.made : Int) + 1) hup hun e hl⟩
    · rcases old k z hz with ⟨rfl, rfl⟩ | ⟨_, rfl, rfl⟩ | ⟨_, _, hz⟩
      · exact .inl (Nat.lt_succ_self 0)
      · exact hw.alv k d hd
      · exact hw.alv k z hz
  · rw [Tr.make, if_neg h]; exact hw.mono (by omega)
theorem Tr.partE0 {dir : Int} {s : ByteArray} (h : T.partE dir s = 0) : ∃ d n, T.nd dir = some d ∧ getE d.ins s = some n ∧ T.insOf n = [] := by
  simp only [Tr.partE] at h
  cases hx : T.dir dir with
  | none => rw [hx] at h; simp at h
  | some d =>
    rw [hx] at h
    simp only at h
    cases hg : getE d.ins s with
    | none => rw [hg] at h; simp at h
    | some n =>
      rw [hg] at h
      simp only at h
      split at h
      · omega
      · rename_i hz
        exact ⟨d, n, (Tr.dir_some.1 hx).1, hg, List.eq_nil_of_length_eq_zero (by omega)⟩
theorem Wf.part (hw : Wf B T) (dir : Int) (s : ByteArray) : Wf B (T.part dir s) := by
  by_cases h : T.partE dir s = 0
  · obtain ⟨d, n, hd, hg, hi⟩ := Tr.partE0 h
    obtain ⟨x, hx⟩ := hw.k.ent hd (getE_some hg)
    simp only [Tr.insOf, hx] at hi
    rw [Tr.part, if_pos h]
    exact (hw.take hd hg hx hi).1
  · rw [Tr.part, if_neg h]; exact hw
end
end Go.Proofs.Ytlngeaacjbdmhaa
