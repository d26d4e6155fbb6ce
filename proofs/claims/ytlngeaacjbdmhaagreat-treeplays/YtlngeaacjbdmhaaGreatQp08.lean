/-
  What holds of every tree holds behind each step.
-/
import Derived.Test.YtlngeaacjbdmhaaGreatQp05
namespace Go.Proofs.YtlngeaacjbdmhaaGreat
open Go.RowKit Go.Maps
theorem cntE_set {B : Nat} {T : Tr} (hw : Wk B T) {k : Int} {x : Nd} (hk : T.nd k = some x) (o : Option Nd) (m : Int) : (T.set k o).cntE m + cnt1 (some x) m = T.cntE m + cnt1 o m := by
  obtain ⟨h1, h2⟩ := hw.key k x hk
  have := sumF_set (n := T.made + 1) (i := k.toNat) (f := fun j => cnt1 ((T.set k o).nd (j : Int)) m) (g := fun j => cnt1 (T.nd (j : Int)) m) (by omega) (fun j _ hne => by
    rw [Tr.set_other _ _ (by omega)])
  simp only [show ((k.toNat : Nat) : Int) = k by omega, Tr.set_same, hk] at this
  exact this
theorem sumF_two {n i j : Nat} {f : Nat → Nat} (hi : i < n) (hj : j < n) (hij : i ≠ j) : f i + f j ≤ sumF n f := by
  have h1 := sumF_set (n := n) (i := i) (f := f) (g := fun k => if k = i then 0 else f k) hi (fun k _ hk => by simp [hk])
  have h2 := sumF_le (n := n) (i := j) (f := fun k => if k = i then 0 else f k) hj
  simp only [if_pos] at h1
  simp only [if_neg (Ne.symm hij)] at h2
  omega
theorem cntE_two {B : Nat} {T : Tr} (h : Wk B T) {d d' : Int} {x y : Nd} (hd : T.nd d = some x) (hd' : T.nd d' = some y) (hne : d ≠ d') {e e' : Ent} (he : e ∈ x.ins) (he' : e' ∈ y.ins) (h2 : e.2 = e'.2) : 2 ≤ T.cntE e.2 := by
  obtain ⟨k1, k2⟩ := h.key d x hd
  obtain ⟨k3, k4⟩ := h.key d' y hd'
  have := sumF_two (n := T.made + 1) (i := d.toNat) (j := d'.toNat) (f := fun k => cnt1 (T.nd (k : Int)) e.2) (by omega) (by omega) (by omega)
  rw [show ((d.toNat : Nat) : Int) = d by omega, hd, show ((d'.toNat : Nat) : Int) = d' by omega, hd'] at this
  have a1 : 0 < cnt1 (some x) e.2 := List.countP_pos_iff.2 ⟨e, he, by simp⟩
  have a2 : 0 < cnt1 (some y) e.2 := List.countP_pos_iff.2 ⟨e', he', by simp [h2]⟩
  simp only [Tr.cntE]
  omega
theorem cnt1_pos {x : Nd} {m : Int} (h : 0 < cnt1 (some x) m) : ∃ s, (s, m) ∈ x.ins := by
  obtain ⟨⟨s, m'⟩, h1, h2⟩ := List.countP_pos_iff.1 h
  simp at h2
  exact ⟨s, by rw [← h2]; exact h1⟩
theorem sumF_pos {n : Nat} {f : Nat → Nat} (h : 0 < sumF n f) : ∃ k, k < n ∧ 0 < f k := by
  induction n with
  | zero => simp [sumF] at h
  | succ n ih =>
    simp only [sumF] at h
    by_cases h0 : 0 < sumF n f
    · obtain ⟨k, h1, h2⟩ := ih h0
      exact ⟨k, by omega, h2⟩
    · exact ⟨n, by omega, by omega⟩
theorem cntE_in {T : Tr} {m : Int} (h : 0 < T.cntE m) : ∃ d x s, T.nd d = some x ∧ (s, m) ∈ x.ins := by
  obtain ⟨k, _, h2⟩ := sumF_pos h
  cases hx : T.nd (k : Int) with
  | none => rw [hx] at h2; simp [cnt1] at h2
  | some x =>
    rw [hx] at h2
    obtain ⟨s, hs⟩ := cnt1_pos h2
    exact ⟨_, x, s, hx, hs⟩
theorem Wk.node {B : Nat} {T : Tr} (hw : Wk B T) {n : Int} {x y : Nd} (hx : T.nd n = some x) (hi : y.ins = x.ins) (hnm : y.names = x.names) (hh : y.holds ≤ B) (ht : y.text = x.text) (hf : y.file = x.file) (hk : y.kind = x.kind) (hu : y.up = x.up) : Wk B (T.set n (some y)) := by
  have hc : ∀ m, (T.set n (some y)).cntE m = T.cntE m := fun m => by
    have := cntE_set hw hx (some y) m
    simp only [cnt1, hi] at this
    omega
  have old : ∀ k z, (T.set n (some y)).nd k = some z → (k = n ∧ z = y) ∨ (k ≠ n ∧ T.nd k = some z) := fun k z h => by
    by_cases e : k = n
    · subst e; rw [Tr.set_same] at h; cases h; exact .inl ⟨rfl, rfl⟩
    · rw [Tr.set_other _ _ e] at h; exact .inr ⟨e, h⟩
  have some' : ∀ k, (T.nd k).isSome = true → ((T.set n (some y)).nd k).isSome = true := fun k h => by
    by_cases e : k = n
    · subst e; rw [Tr.set_same]; rfl
    · rw [Tr.set_other _ _ e]; exact h
  refine ⟨fun k z h => ?_, fun k z h => ?_, fun k z h e he => ?_, hw.made, fun k z h => ?_, fun k z h e he => ?_, fun k z h => ?_, fun k z h => ?_, fun k z h => ?_, fun k z h => ?_, fun k z h => ?_, hw.pol, hw.mst⟩
  all_goals rcases old k z h with ⟨rfl, rfl⟩ | ⟨hne, h⟩
  · exact hw.key k x hx
  · exact hw.key k z h
  · rw [hi]; exact hw.srt k x hx
  · exact hw.srt k z h
  · rw [hi] at he; exact some' _ (hw.liv k x hx e he)
  · exact some' _ (hw.liv k z h e he)
  · rw [hnm, hi]; exact ⟨(hw.bnd k x hx).1, hh, (hw.bnd k x hx).2.2⟩
  · exact hw.bnd k z h
  · rw [hi] at he; exact hw.nam k x hx e he
  · exact hw.nam k z h e he
  · rw [ht]; exact hw.txt k x hx
  · exact hw.txt k z h
  · rw [hf, hk]; exact hw.fil k x hx
  · exact hw.fil k z h
  · rw [hk]; exact hw.knd k x hx
  · exact hw.knd k z h
  · rw [hu]; exact hw.upw k x hx
  · exact hw.upw k z h
  · rw [hnm, hc]; exact hw.num k x hx
  · rw [hc]; exact hw.num k z h
theorem Wk.add {B : Nat} {T : Tr} (hw : Wk B T) (hm : 1 ≤ T.made) {kind : Int} (mode uid gid : Int) (text : ByteArray) (hk : 1 ≤ kind ∧ kind ≤ 3) (ht : text.size ≤ 281474976710656) : Wk (B + 1) (T.add kind mode uid gid text) := by
  have hno : T.nd ((T.made : Int) + 1) = none := by
    cases h : T.nd ((T.made : Int) + 1) with
    | none => rfl
    | some x => have := hw.key _ x h; omega
  have old : ∀ k z, (T.add kind mode uid gid text).nd k = some z → (k = (T.made : Int) + 1 ∧ z = ⟨kind, bits .and .i64 mode 4095, uid, gid, 0, 0, 0, [], if kind = 2 then (T.pool.fs.length : Int) + 1 else 0, text⟩) ∨ (k ≠ (T.made : Int) + 1 ∧ T.nd k = some z) := fun k z h => by
    simp only [Tr.add] at h
    split at h
    · cases h; exact .inl ⟨by assumption, rfl⟩
    · exact .inr ⟨by assumption, h⟩
  have hc : ∀ m, (T.add kind mode uid gid text).cntE m = T.cntE m := fun m => by
    simp only [Tr.cntE]
    have e1 : (T.add kind mode uid gid text).made + 1 = (T.made + 1) + 1 := rfl
    rw [e1]
    show sumF (T.made + 1) _ + cnt1 ((T.add kind mode uid gid text).nd ((T.made + 1 : Nat) : Int)) m = _
    have e2 : (T.add kind mode uid gid text).nd ((T.made + 1 : Nat) : Int) = some ⟨kind, bits .and .i64 mode 4095, uid, gid, 0, 0, 0, [], if kind = 2 then (T.pool.fs.length : Int) + 1 else 0, text⟩ := by simp [Tr.add]
    rw [e2]
    simp only [cnt1, List.countP_nil, Nat.add_zero]
    refine sumF_congr fun k hk' => ?_
    simp only [Tr.add]
    rw [if_neg (by omega)]
  have some' : ∀ k, (T.nd k).isSome = true → ((T.add kind mode uid gid text).nd k).isSome = true := fun k h => by
    simp only [Tr.add]
    split
    · rfl
    · exact h
  have hc0 : T.cntE ((T.made : Int) + 1) = 0 := by
    rcases Nat.eq_zero_or_pos (T.cntE ((T.made : Int) + 1)) with h | h
    · exact h
    · obtain ⟨d, x, s, h1, h2⟩ := cntE_in h
      have := hw.liv d x h1 _ h2
      simp only at this
      rw [hno] at this
      cases this
  have hwb := hw.mono (Nat.le_succ B)
  have hmB := hw.made
  have hpB := hw.pol
  refine ⟨fun k z h => ?_, fun k z h => ?_, fun k z h e he => ?_, by simp only [Tr.add]; omega, fun k z h => ?_, fun k z h e he => ?_, fun k z h => ?_, fun k z h => ?_, fun k z h => ?_, fun k z h => ?_, fun k z h => ?_, ?_, hw.mst⟩
  all_goals try rcases old k z h with ⟨rfl, rfl⟩ | ⟨hne, h⟩
  · exact ⟨by omega, by simp [Tr.add]⟩
  · have := hw.key k z h; exact ⟨this.1, by simp only [Tr.add]; omega⟩
  · exact List.Pairwise.nil
  · exact hw.srt k z h
  · simp at he
  · exact some' _ (hw.liv k z h e he)
  · exact ⟨Nat.zero_le _, Nat.zero_le _, Nat.zero_le _⟩
  · exact hwb.bnd k z h
  · simp at he
  · exact hw.nam k z h e he
  · exact ht
  · exact hw.txt k z h
  · simp only
    by_cases h2 : kind = 2
    · simp only [if_pos h2]; exact ⟨by omega, by omega, fun h' => absurd h2 h'⟩
    · simp only [if_neg h2]; exact ⟨by omega, by omega, fun _ => trivial⟩
  · exact hwb.fil k z h
  · exact hk
  · exact hw.knd k z h
  · exact ⟨Int.le_refl _, by simp only; omega⟩
  · exact hwb.upw k z h
  · rw [hc, hc0]
    have h1 : ¬ ((T.made : Int) + 1 = 1) := by omega
    show 0 = 0 + (if (T.made : Int) + 1 = 1 then 1 else 0)
    rw [if_neg h1]
  · rw [hc]; exact hw.num k z h
  · simp only [Tr.add]
    split
    · simp [S.add]; omega
    · omega
theorem Tr.give_nd {T : Tr} {dir n : Int} {d x : Nd} (hd : T.nd dir = some d) (hx : T.nd n = some x) (s : ByteArray) (k : Int) : (T.give dir s n).nd k = if k = n then some (x.named dir) else if k = dir then some { d with ins := putE d.ins s n } else T.nd k := by
  simp only [Tr.give, hd, hx, Tr.set]
theorem Wk.give {B : Nat} {T : Tr} (hw : Wk B T) {dir n : Int} {d x : Nd} (hd : T.nd dir = some d) (hx : T.nd n = some x) (hdn : dir ≠ n) {s : ByteArray} (hs : getE d.ins s = none) (hz : s.size ≤ 255) : Wk (B + 1) (T.give dir s n) := by
  have hnd := Tr.give_nd hd hx s
  obtain ⟨kd1, kd2⟩ := hw.key dir d hd
  have hmB := hw.made
  have hwb := hw.mono (Nat.le_succ B)
  have hc : ∀ m, (T.give dir s n).cntE m = T.cntE m + if m = n then 1 else 0 := fun m => by
    have h1 := cntE_set hw hd (some { d with ins := putE d.ins s n }) m
    have hw1 : (T.set dir (some { d with ins := putE d.ins s n })).nd n = some x := by rw [Tr.set_other _ _ (Ne.symm hdn)]; exact hx
    have e : T.give dir s n = (T.set dir (some { d with ins := putE d.ins s n })).set n (some (x.named dir)) := by simp [Tr.give, hd, hx]
    have h2 : ((T.set dir (some { d with ins := putE d.ins s n })).set n (some (x.named dir))).cntE m = (T.set dir (some { d with ins := putE d.ins s n })).cntE m := by
      simp only [Tr.cntE]
      refine sumF_congr fun k hk => ?_
      by_cases e : (k : Int) = n
      · rw [e, Tr.set_same, hw1]; rfl
      · rw [Tr.set_other _ _ e]
    rw [e, h2]
    simp only [cnt1, putE_count] at h1
    by_cases hm : m = n
    · subst hm; simp only [decide_true, if_true] at h1 ⊢; omega
    · have hm2 : ¬ n = m := Ne.symm hm
      simp only [hm2, decide_false, Bool.false_eq_true, if_false, hm] at h1 ⊢; omega
  have old : ∀ k z, (T.give dir s n).nd k = some z → (k = n ∧ z = x.named dir) ∨ (k ≠ n ∧ k = dir ∧ z = { d with ins := putE d.ins s n }) ∨ (k ≠ n ∧ k ≠ dir ∧ T.nd k = some z) := fun k z h => by
    rw [hnd] at h
    by_cases e : k = n
    · rw [if_pos e] at h; cases h; exact .inl ⟨e, rfl⟩
    · rw [if_neg e] at h
      by_cases e2 : k = dir
      · rw [if_pos e2] at h; cases h; exact .inr (.inl ⟨e, e2, rfl⟩)
      · rw [if_neg e2] at h; exact .inr (.inr ⟨e, e2, h⟩)
  have some' : ∀ k, (T.nd k).isSome = true → ((T.give dir s n).nd k).isSome = true := fun k h => by
    rw [hnd]
    split
    · rfl
    · split
      · rfl
      · exact h
  have hmd : (T.give dir s n).made = T.made := by simp [Tr.give, hd, hx, Tr.set]
  have hpl : (T.give dir s n).pool = T.pool := by simp [Tr.give, hd, hx, Tr.set]
  have hms : (T.give dir s n).most = T.most := by simp [Tr.give, hd, hx, Tr.set]
  refine ⟨fun k z h => ?_, fun k z h => ?_, fun k z h e he => ?_, by rw [hmd]; omega, fun k z h => ?_, fun k z h e he => ?_, fun k z h => ?_, fun k z h => ?_, fun k z h => ?_, fun k z h => ?_, fun k z h => ?_, by rw [hpl]; exact hwb.pol, by rw [hms]; exact hw.mst⟩
  all_goals rcases old k z h with ⟨rfl, rfl⟩ | ⟨hn1, rfl, rfl⟩ | ⟨hn1, hn2, h⟩
  · rw [hmd]; exact hw.key k x hx
  · rw [hmd]; exact hw.key k d hd
  · rw [hmd]; exact hw.key k z h
  · exact hw.srt k x hx
  · exact (hw.srt k d hd).put hs n
  · exact hw.srt k z h
  · exact some' _ (hw.liv k x hx e he)
  · rcases putE_mem.1 he with rfl | he
    · exact some' _ (by rw [hx]; rfl)
    · exact some' _ (hw.liv k d hd e he)
  · exact some' _ (hw.liv k z h e he)
  · have := hw.bnd k x hx
    simp only [Nd.named]
    exact ⟨by omega, by omega, by omega⟩
  · have := hw.bnd k d hd
    simp only [putE_length]
    exact ⟨by omega, by omega, by omega⟩
  · exact hwb.bnd k z h
  · exact hw.nam k x hx e he
  · rcases putE_mem.1 he with rfl | he
    · exact hz
    · exact hw.nam k d hd e he
  · exact hw.nam k z h e he
  · exact hw.txt k x hx
  · exact hw.txt k d hd
  · exact hw.txt k z h
  · exact hwb.fil k x hx
  · exact hwb.fil k d hd
  · exact hwb.fil k z h
  · exact hw.knd k x hx
  · exact hw.knd k d hd
  · exact hw.knd k z h
  · simp only [Nd.named]
    split
    · omega
    · exact hwb.upw k x hx
  · exact hwb.upw k d hd
  · exact hwb.upw k z h
  · rw [hc, if_pos rfl]
    have := hw.num k x hx
    simp only [Nd.named]
    omega
  · rw [hc, if_neg hn1]
    exact hw.num k d hd
  · rw [hc, if_neg hn1]
    exact hw.num k z h
theorem dropS_len (s : S) (f : Int) : (dropS s f).fs.length = s.fs.length := by
  simp only [dropS]
  split
  · rfl
  · simp [S.put]
theorem Tr.take_nd {T : Tr} {dir n : Int} {d x : Nd} {s : ByteArray} (hd : T.nd dir = some d) (hg : getE d.ins s = some n) (hx : T.nd n = some x) (hdn : dir ≠ n) (k : Int) :
    (T.take dir s).nd k = if k = n then (if 0 < x.names - 1 ∨ 0 < x.holds then some { x with names := x.names - 1 } else none) else if k = dir then some { d with ins := delE d.ins s } else T.nd k := by
  have hx5 : (T.set dir (some { d with ins := delE d.ins s })).nd n = some x := by rw [Tr.set_other _ _ (Ne.symm hdn)]; exact hx
  simp only [Tr.take, hd, hg, Tr.less, hx5, Tr.leave, Tr.set_same]
  split
  · simp only [Tr.set]
  · simp only [Tr.set]
    by_cases e : k = n
    · simp [e]
    · simp [e]
theorem Tr.take_rest {T : Tr} {dir n : Int} {d x : Nd} {s : ByteArray} (hd : T.nd dir = some d) (hg : getE d.ins s = some n) (hx : T.nd n = some x) (hdn : dir ≠ n) :
    (T.take dir s).made = T.made ∧ (T.take dir s).most = T.most ∧ (T.take dir s).pool = if 0 < x.names - 1 ∨ 0 < x.holds then T.pool else dropS T.pool x.file := by
  have hx5 : (T.set dir (some { d with ins := delE d.ins s })).nd n = some x := by rw [Tr.set_other _ _ (Ne.symm hdn)]; exact hx
  simp only [Tr.take, hd, hg, Tr.less, hx5, Tr.leave, Tr.set_same]
  split
  · exact ⟨rfl, rfl, rfl⟩
  · exact ⟨rfl, rfl, rfl⟩
theorem Wk.take {B : Nat} {T : Tr} (hw : Wk B T) {dir n : Int} {d x : Nd} {s : ByteArray} (hd : T.nd dir = some d) (hg : getE d.ins s = some n) (hx : T.nd n = some x) (hdn : dir ≠ n) (hde : x.names = 1 → x.holds = 0 → x.ins = []) : Wk B (T.take dir s) := by
  have hnd := Tr.take_nd hd hg hx hdn
  obtain ⟨hmd, hms, hpl⟩ := Tr.take_rest hd hg hx hdn
  have hS := hw.srt dir d hd
  have hxn := hw.num n x hx
  have hc0 : 0 < T.cntE n := cntE_pos hw hd (getE_some hg)
  have hc : ∀ m, (T.take dir s).cntE m + (if m = n then 1 else 0) = T.cntE m := fun m => by
    have h1 := cntE_set hw hd (some { d with ins := delE d.ins s }) m
    have h2 : (T.take dir s).cntE m = (T.set dir (some { d with ins := delE d.ins s })).cntE m := by
      simp only [Tr.cntE, hmd]
      refine sumF_congr fun k _ => ?_
      rw [hnd]
      by_cases e : (k : Int) = n
      · rw [if_pos e, e, Tr.set_other _ _ (Ne.symm hdn), hx]
        split
        · rfl
        · rename_i hne
          have := hde (by omega) (by omega)
          simp [cnt1, this]
      · rw [if_neg e]
        by_cases e2 : (k : Int) = dir
        · rw [if_pos e2, e2, Tr.set_same]
        · rw [if_neg e2, Tr.set_other _ _ e2]
    have h3 := delE_count hS hg (fun e => decide (e.2 = m))
    rw [h2]
    simp only [cnt1] at h1
    by_cases hm : m = n
    · subst hm; simp only [decide_true, if_true] at h3 ⊢; omega
    · have hm2 : ¬ n = m := Ne.symm hm
      simp only [hm2, decide_false, Bool.false_eq_true, if_false, hm] at h3 ⊢; omega
  have old : ∀ k z, (T.take dir s).nd k = some z → (k = n ∧ z = { x with names := x.names - 1 } ∧ (0 < x.names - 1 ∨ 0 < x.holds)) ∨ (k ≠ n ∧ k = dir ∧ z = { d with ins := delE d.ins s }) ∨ (k ≠ n ∧ k ≠ dir ∧ T.nd k = some z) := fun k z h => by
    rw [hnd] at h
    by_cases e : k = n
    · rw [if_pos e] at h
      split at h
      · cases h; exact .inl ⟨e, rfl, by assumption⟩
      · cases h
    · rw [if_neg e] at h
      by_cases e2 : k = dir
      · rw [if_pos e2] at h; cases h; exact .inr (.inl ⟨e, e2, rfl⟩)
      · rw [if_neg e2] at h; exact .inr (.inr ⟨e, e2, h⟩)
  have some' : ∀ (k : Int) (m : Int) (z : Nd) (s' : ByteArray), (T.take dir s).nd k = some z → (s', m) ∈ z.ins → (T.nd m).isSome = true → ((T.take dir s).nd m).isSome = true := fun k m z s' hz hm h => by
    rw [hnd]
    by_cases e : m = n
    · rw [if_pos e]
      split
      · rfl
      · rename_i hne
        exfalso
        have h1 := hc n
        rw [if_pos rfl] at h1
        have h2 : 0 < (T.take dir s).cntE n := by
          have hkk : k ≤ (T.take dir s).made ∧ 1 ≤ k := by
            rw [hmd]
            rcases old k z hz with ⟨rfl, _, _⟩ | ⟨_, rfl, _⟩ | ⟨_, _, h'⟩
            · exact ⟨(hw.key k x hx).2, (hw.key k x hx).1⟩
            · exact ⟨(hw.key k d hd).2, (hw.key k d hd).1⟩
            · exact ⟨(hw.key k z h').2, (hw.key k z h').1⟩
          have := sumF_le (n := (T.take dir s).made + 1) (i := k.toNat) (f := fun j => cnt1 ((T.take dir s).nd (j : Int)) n) (by omega)
          rw [show ((k.toNat : Nat) : Int) = k by omega, hz] at this
          have h3 : 0 < cnt1 (some z) n := List.countP_pos_iff.2 ⟨(s', m), hm, by simp [e]⟩
          simp only [Tr.cntE]
          omega
        by_cases hn1 : n = 1
        · rw [if_pos hn1] at hxn; omega
        · rw [if_neg hn1] at hxn; omega
    · rw [if_neg e]
      split
      · rfl
      · exact h
  refine ⟨fun k z h => ?_, fun k z h => ?_, fun k z h e he => ?_, by rw [hmd]; exact hw.made, fun k z h => ?_, fun k z h e he => ?_, fun k z h => ?_, fun k z h => ?_, fun k z h => ?_, fun k z h => ?_, fun k z h => ?_, ?_, by rw [hms]; exact hw.mst⟩
  · rw [hmd]
    rcases old k z h with ⟨rfl, _, _⟩ | ⟨_, rfl, _⟩ | ⟨_, _, h⟩
    · exact hw.key k x hx
    · exact hw.key k d hd
    · exact hw.key k z h
  · rcases old k z h with ⟨rfl, rfl, _⟩ | ⟨_, rfl, rfl⟩ | ⟨_, _, h⟩
    · exact hw.srt k x hx
    · exact hS.del s
    · exact hw.srt k z h
  · obtain ⟨s', m⟩ := e
    refine some' k m z s' h he ?_
    rcases old k z h with ⟨rfl, rfl, _⟩ | ⟨_, rfl, rfl⟩ | ⟨_, _, h⟩
    · exact hw.liv k x hx _ he
    · exact hw.liv k d hd _ ((delE_mem hS hg).1 he).1
    · exact hw.liv k z h _ he
  · rcases old k z h with ⟨rfl, rfl, _⟩ | ⟨_, rfl, rfl⟩ | ⟨_, _, h⟩
    · have := hw.bnd k x hx
      exact ⟨by simp only; omega, this.2.1, this.2.2⟩
    · have := hw.bnd k d hd
      have := delE_length hS hg
      exact ⟨by simp only; omega, by simp only; omega, by simp only; omega⟩
    · exact hw.bnd k z h
  · rcases old k z h with ⟨rfl, rfl, _⟩ | ⟨_, rfl, rfl⟩ | ⟨_, _, h⟩
    · exact hw.nam k x hx e he
    · exact hw.nam k d hd e ((delE_mem hS hg).1 he).1
    · exact hw.nam k z h e he
  · rcases old k z h with ⟨rfl, rfl, _⟩ | ⟨_, rfl, rfl⟩ | ⟨_, _, h⟩
    · exact hw.txt k x hx
    · exact hw.txt k d hd
    · exact hw.txt k z h
  · rcases old k z h with ⟨rfl, rfl, _⟩ | ⟨_, rfl, rfl⟩ | ⟨_, _, h⟩
    · exact hw.fil k x hx
    · exact hw.fil k d hd
    · exact hw.fil k z h
  · rcases old k z h with ⟨rfl, rfl, _⟩ | ⟨_, rfl, rfl⟩ | ⟨_, _, h⟩
    · exact hw.knd k x hx
    · exact hw.knd k d hd
    · exact hw.knd k z h
  · rcases old k z h with ⟨rfl, rfl, _⟩ | ⟨_, rfl, rfl⟩ | ⟨_, _, h⟩
    · exact hw.upw k x hx
    · exact hw.upw k d hd
    · exact hw.upw k z h
  · have hcc := hc k
    rcases old k z h with ⟨rfl, rfl, _⟩ | ⟨hn1, rfl, rfl⟩ | ⟨hn1, _, h⟩
    · rw [if_pos rfl] at hcc
      simp only
      omega
    · rw [if_neg hn1] at hcc
      have := hw.num k d hd
      simp only
      omega
    · rw [if_neg hn1] at hcc
      have := hw.num k z h
      omega
  · rw [hpl]
    split
    · exact hw.pol
    · rw [dropS_len]; exact hw.pol
end Go.Proofs.YtlngeaacjbdmhaaGreat

namespace Go.Proofs.YtlngeaacjbdmhaaGreat
open Go.RowKit Go.Maps
structure Wf (B : Nat) (T : Tr) : Prop where
  k : Wk B T
  root : ∃ x, T.nd 1 = some x ∧ x.kind = 1 ∧ x.names = 1 ∧ x.up = 1
  one : ∀ n x, T.nd n = some x → x.kind = 1 → x.names ≤ 1
  upd : ∀ n x, T.nd n = some x → x.kind = 1 → n ≠ 1 → 0 < x.names → x.up ≠ n ∧ ∃ d s, T.nd x.up = some d ∧ (s, n) ∈ d.ins
  emp : ∀ n x, T.nd n = some x → x.ins ≠ [] → x.kind = 1 ∧ 0 < x.names
  chn : ∀ n x, T.nd n = some x → x.kind = 1 → ∃ l, Ab T n l
  alv : ∀ n x, T.nd n = some x → 0 < x.names ∨ 0 < x.holds
theorem Wf.mono {B B' : Nat} {T : Tr} (h : Wf B T) (hb : B ≤ B') : Wf B' T := ⟨h.k.mono hb, h.root, h.one, h.upd, h.emp, h.chn, h.alv⟩
section
variable {B : Nat} {T : Tr}
theorem Wf.noroot (h : Wf B T) {d : Int} {x : Nd} (hd : T.nd d = some x) {s : ByteArray} (hs : (s, (1 : Int)) ∈ x.ins) : False := by
  obtain ⟨r, h1, h2, h3, h4⟩ := h.root
  have hp : 0 < T.cntE 1 := cntE_pos h.k hd hs
  have := h.k.num 1 r h1
  simp only [if_pos] at this
  omega
theorem Wf.holder (h : Wf B T) {d m : Int} {x y : Nd} (hd : T.nd d = some x) {s : ByteArray} (hs : (s, m) ∈ x.ins) (hm : T.nd m = some y) (hk : y.kind = 1) : y.up = d ∧ 0 < y.names ∧ m ≠ 1 := by
  have hm1 : m ≠ 1 := fun e => by subst e; exact h.noroot hd hs
  have hn := h.k.num m y hm
  rw [if_neg hm1] at hn
  have hp := cntE_pos h.k hd hs
  simp only at hp
  have h1 := h.one m y hm hk
  refine ⟨?_, by omega, hm1⟩
  obtain ⟨hu, d', s', hd', hs'⟩ := h.upd m y hm hk hm1 (by omega)
  by_cases e : y.up = d
  · exact e
  · have := cntE_two h.k hd' hd e hs' hs rfl
    simp only at this
    omega
theorem Wf.noself (h : Wf B T) {n : Int} {x : Nd} (hn : T.nd n = some x) {s : ByteArray} (hs : (s, n) ∈ x.ins) : False := by
  have hk := (h.emp n x hn (List.ne_nil_of_mem hs)).1
  obtain ⟨h1, h2, h3⟩ := h.holder hn hs hn hk
  exact (h.upd n x hn hk h3 h2).1 h1
theorem Wf.made1 (h : Wf B T) : 1 ≤ T.made := by
  obtain ⟨r, h1, _⟩ := h.root
  have := h.k.key 1 r h1
  omega
theorem Tr.up_dir {n : Int} {x : Nd} (hx : T.nd n = some x) (hk : x.kind = 1) : T.up n = if x.names = 0 then n else x.up := by
  simp [Tr.up, Tr.dir, hx, hk]
theorem Tr.up_no {n : Int} (h : ∀ x, T.nd n = some x → x.kind ≠ 1) : T.up n = 0 := by
  cases hx : T.nd n with
  | none => simp [Tr.up, Tr.dir, hx]
  | some x => simp [Tr.up, Tr.dir, hx, h x hx]
theorem Wf.up_cases (h : Wf B T) (n : Int) : T.up n = 0 ∨ T.up n = n ∨ ∃ d s, T.nd (T.up n) = some d ∧ (s, n) ∈ d.ins := by
  cases hx : T.nd n with
  | none => left; exact Tr.up_no fun x e => by rw [hx] at e; cases e
  | some x =>
    by_cases hk : x.kind = 1
    · rw [Tr.up_dir hx hk]
      by_cases hz : x.names = 0
      · right; left; rw [if_pos hz]
      · rw [if_neg hz]
        by_cases h1 : n = 1
        · right; left
          obtain ⟨r, g1, _, _, g4⟩ := h.root
          rw [h1] at hx ⊢
          rw [g1] at hx
          cases hx
          exact g4
        · right; right
          exact (h.upd n x hx hk h1 (by omega)).2
    · left; exact Tr.up_no fun y e => by rw [hx] at e; cases e; exact hk
theorem Ab.congr {T T' : Tr} (P : Int → Prop) (h : ∀ k, P k → T'.up k = T.up k) (hc : ∀ k, P k → T.up k ≠ 0 → P (T.up k)) : ∀ {l : List Int} {n : Int}, P n → Ab T n l → Ab T' n l
  | [], n, hn, g => by
    simp only [Ab] at g ⊢
    rw [h n hn]; exact g
  | u :: l, n, hn, g => by
    obtain ⟨g1, g2, g3, g4⟩ := g
    exact ⟨by rw [h n hn]; exact g1, g2, g3, Ab.congr P h hc (by rw [← g1]; exact hc n hn (by rw [g1]; exact g2)) g4⟩
theorem Wf.new (nodes blocks : Nat) (hk : Wk 1 (Tr.new nodes blocks)) : Wf 1 (Tr.new nodes blocks) := by
  have hnd : ∀ k x, (Tr.new nodes blocks).nd k = some x → k = 1 ∧ x = ⟨1, 493, 0, 0, 1, 0, 1, [], 0, ⟨#[]⟩⟩ := fun k x h => by
    simp only [Tr.new] at h
    split at h
    · cases h; exact ⟨by assumption, rfl⟩
    · cases h
  refine ⟨hk, ⟨_, rfl, rfl, rfl, rfl⟩, fun n x h _ => ?_, fun n x h _ h1 => ?_, fun n x h hi => ?_, fun n x h _ => ?_, fun n x h => ?_⟩
  all_goals obtain ⟨rfl, rfl⟩ := hnd n x h
  · exact Nat.le_refl _
  · exact absurd rfl h1
  · exact absurd rfl hi
  · refine ⟨[], .inr ?_⟩
    rw [Tr.up_dir h rfl]; rfl
  · exact .inl (Nat.lt_succ_self 0)
theorem Wf.node (hw : Wf B T) {n : Int} {x y : Nd} (hx : T.nd n = some x) (hk : Wk B (T.set n (some y))) (hi : y.ins = x.ins) (hnm : y.names = x.names) (hkd : y.kind = x.kind) (hu : y.up = x.up) (ha : 0 < y.names ∨ 0 < y.holds) : Wf B (T.set n (some y)) := by
  have old : ∀ k z, (T.set n (some y)).nd k = some z → ∃ z', T.nd k = some z' ∧ z.ins = z'.ins ∧ z.names = z'.names ∧ z.kind = z'.kind ∧ z.up = z'.up := fun k z h => by
    by_cases e : k = n
    · subst e; rw [Tr.set_same] at h; cases h; exact ⟨x, hx, hi, hnm, hkd, hu⟩
    · rw [Tr.set_other _ _ e] at h; exact ⟨z, h, rfl, rfl, rfl, rfl⟩
  have new : ∀ k z', T.nd k = some z' → ∃ z, (T.set n (some y)).nd k = some z ∧ z.ins = z'.ins ∧ z.names = z'.names ∧ z.kind = z'.kind ∧ z.up = z'.up := fun k z' h => by
    by_cases e : k = n
    · subst e; rw [hx] at h; cases h; exact ⟨y, Tr.set_same _ _ _, hi, hnm, hkd, hu⟩
    · exact ⟨z', by rw [Tr.set_other _ _ e]; exact h, rfl, rfl, rfl, rfl⟩
  have hup : ∀ k, (T.set n (some y)).up k = T.up k := fun k => by
    cases h : T.nd k with
    | none =>
      rw [Tr.up_no (T := T) fun z e => by rw [h] at e; cases e]
      refine Tr.up_no fun z e => ?_
      obtain ⟨z', h1, _⟩ := old k z e
      rw [h] at h1; cases h1
    | some z' =>
      obtain ⟨z, h1, _, h3, h4, h5⟩ := new k z' h
      by_cases hk1 : z'.kind = 1
      · rw [Tr.up_dir h hk1, Tr.up_dir h1 (h4.trans hk1), h3, h5]
      · rw [Tr.up_no (T := T) fun w e => by rw [h] at e; cases e; exact hk1, Tr.up_no fun w e => by rw [h1] at e; cases e; rw [h4]; exact hk1]
  refine ⟨hk, ?_, fun k z h hz => ?_, fun k z h hz h1 hp => ?_, fun k z h hz => ?_, fun k z h hz => ?_, fun k z h => ?_⟩
  · obtain ⟨r, g1, g2, g3, g4⟩ := hw.root
    obtain ⟨z, h1, _, h3, h4, h5⟩ := new 1 r g1
    exact ⟨z, h1, h4.trans g2, h3.trans g3, h5.trans g4⟩
  · obtain ⟨z', h1, h2, h3, h4, h5⟩ := old k z h
    rw [h3]; exact hw.one k z' h1 (h4.symm.trans hz)
  · obtain ⟨z', g1, g2, g3, g4, g5⟩ := old k z h
    obtain ⟨u1, d, s, u2, u3⟩ := hw.upd k z' g1 (g4.symm.trans hz) h1 (by omega)
    rw [g5]
    obtain ⟨d', w1, w2, _⟩ := new _ d u2
    exact ⟨u1, d', s, w1, by rw [w2]; exact u3⟩
  · obtain ⟨z', g1, g2, g3, g4, g5⟩ := old k z h
    have := hw.emp k z' g1 (by rw [← g2]; exact hz)
    exact ⟨g4.trans this.1, by omega⟩
  · obtain ⟨z', g1, g2, g3, g4, g5⟩ := old k z h
    obtain ⟨l, hl⟩ := hw.chn k z' g1 (g4.symm.trans hz)
    exact ⟨l, Ab.congr (fun _ => True) (fun k _ => hup k) (fun _ _ _ => trivial) trivial hl⟩
  · by_cases e : k = n
    · subst e; rw [Tr.set_same] at h; cases h; exact ha
    · rw [Tr.set_other _ _ e] at h; exact hw.alv k z h
theorem Wf.hold (hw : Wf B T) (n : Int) : Wf (B + 1) (T.hold n) := by
  cases hx : T.nd n with
  | none => simp only [Tr.hold, hx]; exact hw.mono (Nat.le_succ B)
  | some x =>
    simp only [Tr.hold, hx]
    have hb := (hw.k.bnd n x hx).2.1
    exact (hw.mono (Nat.le_succ B)).node hx ((hw.k.mono (Nat.le_succ B)).node hx rfl rfl (by simp only; omega) rfl rfl rfl rfl) rfl rfl rfl rfl (.inr (by simp only; omega))
theorem Tr.loose_nd {n : Int} {x : Nd} (hx : T.nd n = some x) (hh : x.holds ≠ 0) (k : Int) : (T.loose n).nd k = if k = n then (if 0 < x.names ∨ 0 < x.holds - 1 then some { x with holds := x.holds - 1 } else none) else T.nd k := by
  simp only [Tr.loose, hx, if_neg hh, Tr.leave, Tr.set_same]
  split
  · by_cases e : k = n
    · subst e; rw [Tr.set_same, if_pos rfl]
    · rw [Tr.set_other _ _ e, if_neg e]
  · simp only [Tr.set]
    by_cases e : k = n
    · simp [e]
    · simp [e]
theorem Wf.loose (hw : Wf B T) (n : Int) : Wf B (T.loose n) := by
  cases hx : T.nd n with
  | none => simp only [Tr.loose, hx]; exact hw
  | some x =>
    by_cases hh : x.holds = 0
    · simp only [Tr.loose, hx, if_pos hh]; exact hw
    · have hb := (hw.k.bnd n x hx).2.1
      by_cases hd : 0 < x.names ∨ 0 < x.holds - 1
      · have e : T.loose n = T.set n (some { x with holds := x.holds - 1 }) := by
          simp only [Tr.loose, hx, if_neg hh, Tr.leave, Tr.set_same, if_pos hd]
        rw [e]
        exact hw.node hx (hw.k.node hx rfl rfl (by simp only; omega) rfl rfl rfl rfl) rfl rfl rfl rfl hd
      · have hnd := Tr.loose_nd hx hh
        simp only [if_neg hd] at hnd
        have hi : x.ins = [] := by
          by_cases e : x.ins = []
          · exact e
          · have := (hw.emp n x hx e).2; omega
        have hn0 : x.names = 0 := by omega
        have hn1 : n ≠ 1 := fun e => by
          obtain ⟨r, g1, _, g3, _⟩ := hw.root
          rw [e, g1] at hx; cases hx; omega
        have hmd : (T.loose n).made = T.made ∧ (T.loose n).most = T.most ∧ (T.loose n).pool = dropS T.pool x.file := by
          simp only [Tr.loose, hx, if_neg hh, Tr.leave, Tr.set_same, if_neg hd]
          exact ⟨rfl, rfl, rfl⟩
        have old : ∀ k z, (T.loose n).nd k = some z → k ≠ n ∧ T.nd k = some z := fun k z h => by
          rw [hnd] at h
          by_cases e : k = n
          · rw [if_pos e] at h; cases h
          · rw [if_neg e] at h; exact ⟨e, h⟩
        have hc0 : T.cntE n = 0 := by have := hw.k.num n x hx; rw [if_neg hn1] at this; omega
        have hne : ∀ k z, T.nd k = some z → ∀ s, (s, n) ∉ z.ins := fun k z h s hs => by
          have := cntE_pos hw.k h hs
          simp only at this; omega
        have hc : ∀ m, (T.loose n).cntE m = T.cntE m := fun m => by
          simp only [Tr.cntE, hmd.1]
          refine sumF_congr fun k _ => ?_
          rw [hnd]
          by_cases e : (k : Int) = n
          · rw [if_pos e, e, hx]; simp [cnt1, hi]
          · rw [if_neg e]
        have keep : ∀ k z, k ≠ n → T.nd k = some z → (T.loose n).nd k = some z := fun k z e h => by rw [hnd, if_neg e]; exact h
        have hup : ∀ k, k ≠ n → (T.loose n).up k = T.up k := fun k e => by
          simp only [Tr.up, Tr.dir, hnd, if_neg e]
        refine ⟨⟨fun k z h => by rw [hmd.1]; exact hw.k.key k z (old k z h).2, fun k z h => hw.k.srt k z (old k z h).2, fun k z h e he => ?_, by rw [hmd.1]; exact hw.k.made, fun k z h => hw.k.bnd k z (old k z h).2, fun k z h => hw.k.nam k z (old k z h).2, fun k z h => hw.k.txt k z (old k z h).2, fun k z h => hw.k.fil k z (old k z h).2, fun k z h => hw.k.knd k z (old k z h).2, fun k z h => hw.k.upw k z (old k z h).2, fun k z h => by rw [hc]; exact hw.k.num k z (old k z h).2, by rw [hmd.2.2, dropS_len]; exact hw.k.pol, by rw [hmd.2.1]; exact hw.k.mst⟩, ?_, fun k z h => hw.one k z (old k z h).2, fun k z h hk h1 hp => ?_, fun k z h => hw.emp k z (old k z h).2, fun k z h hk => ?_, fun k z h => hw.alv k z (old k z h).2⟩
        · obtain ⟨s, m⟩ := e
          obtain ⟨y, hy⟩ := hw.k.ent (old k z h).2 he
          have hmn : m ≠ n := fun e => hne k z (old k z h).2 s (by rw [← e]; exact he)
          simp only at hy ⊢
          rw [keep m y hmn hy]; rfl
        · obtain ⟨r, g1, g2⟩ := hw.root
          exact ⟨r, keep 1 r (Ne.symm hn1) g1, g2⟩
        · obtain ⟨u1, d, s, u2, u3⟩ := hw.upd k z (old k z h).2 hk h1 hp
          refine ⟨u1, d, s, keep _ d (fun e => ?_) u2, u3⟩
          rw [e, hx] at u2; cases u2; rw [hi] at u3; simp at u3
        · obtain ⟨l, hl⟩ := hw.chn k z (old k z h).2 hk
          refine ⟨l, Ab.congr (fun k => k ≠ n) hup (fun k hk _ e => ?_) (old k z h).1 hl⟩
          rcases hw.up_cases k with h1 | h1 | ⟨d, s, h1, h2⟩
          · omega
          · exact hk (h1.symm.trans e)
          · rw [e, hx] at h1; cases h1; rw [hi] at h2; simp at h2
theorem Wf.take (hw : Wf B T) {dir n : Int} {d x : Nd} {s : ByteArray} (hd : T.nd dir = some d) (hg : getE d.ins s = some n) (hx : T.nd n = some x) (hi : x.ins = []) : Wf B (T.take dir s) ∧ (∀ k, k ≠ n → (T.take dir s).up k = T.up k) ∧ ∀ k, k ≠ n → T.up k ≠ n := by
  have hdn : dir ≠ n := fun e => by subst e; exact hw.noself hd (getE_some hg)
  have hn1 : n ≠ 1 := fun e => by subst e; exact hw.noroot hd (getE_some hg)
  have hnd := Tr.take_nd hd hg hx hdn
  have hS := hw.k.srt dir d hd
  have hup : ∀ k, k ≠ n → (T.take dir s).up k = T.up k := fun k e => by
    simp only [Tr.up, Tr.dir, hnd, if_neg e]
    by_cases e2 : k = dir
    · rw [if_pos e2, e2, hd]
      by_cases hk : d.kind = 1 <;> simp [hk]
    · rw [if_neg e2]
  have hun : ∀ k, k ≠ n → T.up k ≠ n := fun k hk e => by
    rcases hw.up_cases k with h1 | h1 | ⟨d', s', h1, h2⟩
    · have := hw.k.key n x hx; omega
    · exact hk (h1.symm.trans e)
    · rw [e, hx] at h1; cases h1; rw [hi] at h2; simp at h2
  have old : ∀ k z, (T.take dir s).nd k = some z → (k = n ∧ z = { x with names := x.names - 1 } ∧ (0 < x.names - 1 ∨ 0 < x.holds)) ∨ (k ≠ n ∧ k = dir ∧ z = { d with ins := delE d.ins s }) ∨ (k ≠ n ∧ k ≠ dir ∧ T.nd k = some z) := fun k z h => by
    rw [hnd] at h
    by_cases e : k = n
    · rw [if_pos e] at h
      split at h
      · cases h; exact .inl ⟨e, rfl, by assumption⟩
      · cases h
    · rw [if_neg e] at h
      by_cases e2 : k = dir
      · rw [if_pos e2] at h; cases h; exact .inr (.inl ⟨e, e2, rfl⟩)
      · rw [if_neg e2] at h; exact .inr (.inr ⟨e, e2, h⟩)
  have keep : ∀ u z, u ≠ n → T.nd u = some z → ∃ z', (T.take dir s).nd u = some z' ∧ ∀ s' m, m ≠ n → (s', m) ∈ z.ins → (s', m) ∈ z'.ins := fun u z hu hz => by
    by_cases e2 : u = dir
    · subst e2
      rw [hd] at hz; cases hz
      refine ⟨_, by rw [hnd, if_neg hu, if_pos rfl], fun s' m hm h => (delE_mem hS hg).2 ⟨h, fun e => hm ?_⟩⟩
      have := hS.uniq h (getE_some hg) e
      simp at this; exact this.2
    · exact ⟨z, by rw [hnd, if_neg hu, if_neg e2]; exact hz, fun _ _ _ h => h⟩
  refine ⟨⟨hw.k.take hd hg hx hdn fun _ _ => hi, ?_, fun k z h hk => ?_, fun k z h hk h1 hp => ?_, fun k z h hz => ?_, fun k z h hk => ?_, fun k z h => ?_⟩, hup, hun⟩
  · obtain ⟨r, g1, g2, g3, g4⟩ := hw.root
    by_cases e : (1 : Int) = dir
    · rw [← e, g1] at hd; cases hd
      exact ⟨{ d with ins := delE d.ins s }, by rw [hnd, if_neg (Ne.symm hn1), if_pos e], g2, g3, g4⟩
    · exact ⟨r, by rw [hnd, if_neg (Ne.symm hn1), if_neg e]; exact g1, g2, g3, g4⟩
  · rcases old k z h with ⟨rfl, rfl, _⟩ | ⟨_, rfl, rfl⟩ | ⟨_, _, h⟩
    · have := hw.one k x hx hk; simp only; omega
    · exact hw.one k d hd hk
    · exact hw.one k z h hk
  · have key : ∀ z0, T.nd k = some z0 → z0.kind = 1 → 0 < z0.names → z0.up = z.up → k ≠ n → z.up ≠ k ∧ ∃ d0 s0, (T.take dir s).nd z.up = some d0 ∧ (s0, k) ∈ d0.ins := fun z0 h0 hk0 hp0 hu hkn => by
      obtain ⟨u1, d', s', u2, u3⟩ := hw.upd k z0 h0 hk0 h1 hp0
      rw [hu] at u1 u2
      have hun' : z.up ≠ n := fun e => by rw [e, hx] at u2; cases u2; rw [hi] at u3; simp at u3
      obtain ⟨z', w1, w2⟩ := keep _ d' hun' u2
      exact ⟨u1, z', s', w1, w2 s' k hkn u3⟩
    rcases old k z h with ⟨rfl, rfl, _⟩ | ⟨hkn, rfl, rfl⟩ | ⟨hkn, _, h⟩
    · have := hw.one k x hx hk
      simp only at hp
      omega
    · exact key d hd hk hp rfl hkn
    · exact key z h hk hp rfl hkn
  · rcases old k z h with ⟨rfl, rfl, _⟩ | ⟨_, rfl, rfl⟩ | ⟨_, _, h⟩
    · exact absurd hi hz
    · exact hw.emp k d hd (List.ne_nil_of_mem (getE_some hg))
    · exact hw.emp k z h hz
  · by_cases hkn : k = n
    · subst hkn
      rcases old k z h with ⟨_, rfl, hh⟩ | ⟨h', _⟩ | ⟨h', _⟩
      · have h1 := hw.one k x hx hk
        refine ⟨[], .inr ?_⟩
        rw [Tr.up_dir h hk, if_pos (by simp only; omega)]
      · exact absurd rfl h'
      · exact absurd rfl h'
    · have : ∃ z0, T.nd k = some z0 ∧ z0.kind = 1 := by
        rcases old k z h with ⟨e, _⟩ | ⟨_, rfl, rfl⟩ | ⟨_, _, h⟩
        · exact absurd e hkn
        · exact ⟨d, hd, hk⟩
        · exact ⟨z, h, hk⟩
      obtain ⟨z0, h0, hk0⟩ := this
      obtain ⟨l, hl⟩ := hw.chn k z0 h0 hk0
      exact ⟨l, Ab.congr (fun k => k ≠ n) hup (fun k hk _ => hun k hk) hkn hl⟩
  · rcases old k z h with ⟨rfl, rfl, hh⟩ | ⟨_, rfl, rfl⟩ | ⟨_, _, h⟩
    · exact hh
    · exact hw.alv k d hd
    · exact hw.alv k z h
end
end Go.Proofs.YtlngeaacjbdmhaaGreat
