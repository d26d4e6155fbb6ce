/-
  Names reach every Dir from the root, and from nowhere else: what each call leaves of it.
-/
import Derived.Test.YtlngeaacjbdmhaaTrC
namespace Go.Proofs.Ytlngeaacjbdmhaa
open Go.RowKit Go.Maps

structure Wf (B : Nat) (T : Tr) : Prop where
  k : Wk B T
  root : ∃ x, T.nd 1 = some x ∧ x.kind = 1 ∧ x.names = 1 ∧ x.up = 1
  one : ∀ n x, T.nd n = some x → x.kind = 1 → x.names ≤ 1
  upd : ∀ n x, T.nd n = some x → x.kind = 1 → n ≠ 1 → 0 < x.names → x.up ≠ n ∧ ∃ d s, T.nd x.up = some d ∧ (s, n) ∈ d.ins
  emp : ∀ n x, T.nd n = some x → x.ins ≠ [] → x.kind = 1 ∧ 0 < x.names
  chn : ∀ n x, T.nd n = some x → x.kind = 1 → ∃ l, Ab T n l
  alv : ∀ n x, T.nd n = some x → 0 < x.names ∨ 0 < x.holds
theorem Wf.mono {B B' : Nat} {T : Tr} (h : Wf B T) (hb : B ≤ B') : Wf B' T := ⟨h.k.mono hb, h.root, h.one, h.upd, h.emp, h.chn, h.alv⟩
section
variable {B : Nat} {T : Tr}
/-- No Dir holds the root. -/
theorem Wf.noroot (h : Wf B T) {d : Int} {x : Nd} (hd : T.nd d = some x) {s : ByteArray} (hs : (s, (1 : Int)) ∈ x.ins) : False := by
  obtain ⟨r, h1, h2, h3, h4⟩ := h.root
  have hp : 0 < T.cntE 1 := cntE_pos h.k hd hs
  have := h.k.num 1 r h1
  simp only [if_pos] at this
  omega
/-- Which Dir holds a Dir. -/
theorem Wf.holder (h : Wf B T) {d m : Int} {x y : Nd} (hd : T.nd d = some x) {s : ByteArray} (hs : (s, m) ∈ x.ins) (hm : T.nd m = some y) (hk : y.kind = 1) : y.up = d ∧ 0 < y.names ∧ m ≠ 1 := by
  have hm1 : m ≠ 1 := fun e => by subst e; exact h.noroot hd hs
  have hn := h.k.num m y hm
  rw [if_neg hm1] at hn
  have hp := cntE_pos h.k hd hs
  simp only at hp
  have h1 := h.one m y hm hk
  refine ⟨?_, by omega, hm1⟩
  obtain ⟨hu, d', s', hd', hs'⟩ := h.upd m y hm hk hm1 (by omega)
  by_cases e : y.up = d
  · exact e
  · have := cntE_two h.k hd' hd e hs' hs rfl
    simp only at this
    omega
theorem Wf.noself (h : Wf B T) {n : Int} {x : Nd} (hn : T.nd n = some x) {s : ByteArray} (hs : (s, n) ∈ x.ins) : False := by
  have hk := (h.emp n x hn (List.ne_nil_of_mem hs)).1
  obtain ⟨h1, h2, h3⟩ := h.holder hn hs hn hk
  exact (h.upd n x hn hk h3 h2).1 h1
theorem Wf.made1 (h : Wf B T) : 1 ≤ T.made := by
  obtain ⟨r, h1, _⟩ := h.root
  have := h.k.key 1 r h1
  omega
theorem Tr.up_dir {n : Int} {x : Nd} (hx : T.nd n = some x) (hk : x.kind = 1) : T.up n = if x.names = 0 then n else x.up := by
  simp [Tr.up, Tr.dir, hx, hk]
theorem Tr.up_no {n : Int} (h : ∀ x, T.nd n = some x → x.kind ≠ 1) : T.up n = 0 := by
  cases hx : T.nd n with
  | none => simp [Tr.up, Tr.dir, hx]
  | some x => simp [Tr.up, Tr.dir, hx, h x hx]
/-- What lies above a node is a Dir that holds something, or itself, or none. -/
theorem Wf.up_cases (h : Wf B T) (n : Int) : T.up n = 0 ∨ T.up n = n ∨ ∃ d s, T.nd (T.up n) = some d ∧ (s, n) ∈ d.ins := by
  cases hx : T.nd n with
  | none => left; exact Tr.up_no fun x e => by rw [hx] at e; cases e
  | some x =>
    by_cases hk : x.kind = 1
    · rw [Tr.up_dir hx hk]
      by_cases hz : x.names = 0
      · right; left; rw [if_pos hz]
      · rw [if_neg hz]
        by_cases h1 : n = 1
        · right; left
          obtain ⟨r, g1, _, _, g4⟩ := h.root
          rw [h1] at hx ⊢
          rw [g1] at hx
          cases hx
          exact g4
        · right; right
          exact (h.upd n x hx hk h1 (by omega)).2
    · left; exact Tr.up_no fun y e => by rw [hx] at e; cases e; exact hk
theorem Ab.congr {T T' : Tr} (P : Int → Prop) (h : ∀ k, P k → T'.up k = T.up k) (hc : ∀ k, P k → T.up k ≠ 0 → P (T.up k)) : ∀ {l : List Int} {n : Int}, P n → Ab T n l → Ab T' n l
  | [], n, hn, g => by
    simp only [Ab] at g ⊢
    rw [h n hn]; exact g
  | u :: l, n, hn, g => by
    obtain ⟨g1, g2, g3, g4⟩ := g
    exact ⟨by rw [h n hn]; exact g1, g2, g3, Ab.congr P h hc (by rw [← g1]; exact hc n hn (by rw [g1]; exact g2)) g4⟩
theorem Wf.new (nodes blocks : Nat) (hk : Wk 1 (Tr.new nodes blocks)) : Wf 1 (Tr.new nodes blocks) := by
  have hnd : ∀ k x, (Tr.new nodes blocks).nd k = some x → k = 1 ∧ x = ⟨1, 493, 0, 0, 1, 0, 1, [], 0, ⟨#[]⟩⟩ := fun k x h => by
    simp only [Tr.new] at h
    split at h
    · cases h; exact ⟨by assumption, rfl⟩
    · cases h
  refine ⟨hk, ⟨_, rfl, rfl, rfl, rfl⟩, fun n x h _ => ?_, fun n x h _ h1 => ?_, fun n x h hi => ?_, fun n x h _ => ?_, fun n x h => ?_⟩
  all_goals obtain ⟨rfl, rfl⟩ := hnd n x h
  · exact Nat.le_refl _
  · exact absurd rfl h1
  · exact absurd rfl hi
  · refine ⟨[], .inr ?_⟩
    rw [Tr.up_dir h rfl]; rfl
  · exact .inl (Nat.lt_succ_self 0)
/-- One node turned in what no name tells, and no Dir. -/
theorem Wf.node (hw : Wf B T) {n : Int} {x y : Nd} (hx : T.nd n = some x) (hk : Wk B (T.set n (some y))) (hi : y.ins = x.ins) (hnm : y.names = x.names) (hkd : y.kind = x.kind) (hu : y.up = x.up) (ha : 0 < y.names ∨ 0 < y.holds) : Wf B (T.set n (some y)) := by
  have old : ∀ k z, (T.set n (some y)).nd k = some z → ∃ z', T.nd k = some z' ∧ z.ins = z'.ins ∧ z.names = z'.names ∧ z.kind = z'.kind ∧ z.up = z'.up := fun k z h => by
    by_cases e : k = n
    · subst e; rw [Tr.set_same] at h; cases h; exact ⟨x, hx, hi, hnm, hkd, hu⟩
    · rw [Tr.set_other _ _ e] at h; exact ⟨z, h, rfl, rfl, rfl, rfl⟩
  have new : ∀ k z', T.nd k = some z' → ∃ z, (T.set n (some y)).nd k = some z ∧ z.ins = z'.ins ∧ z.names = z'.names ∧ z.kind = z'.kind ∧ z.up = z'.up := fun k z' h => by
    by_cases e : k = n
    · subst e; rw [hx] at h; cases h; exact ⟨y, Tr.set_same _ _ _, hi, hnm, hkd, hu⟩
    · exact ⟨z', by rw [Tr.set_other _ _ e]; exact h, rfl, rfl, rfl, rfl⟩
  have hup : ∀ k, (T.set n (some y)).up k = T.up k := fun k => by
    cases h : T.nd k with
    | none =>
      rw [Tr.up_no (T := T) fun z e => by rw [h] at e; cases e]
      refine Tr.up_no fun z e => ?_
      obtain ⟨z', h1, _⟩ := old k z e
      rw [h] at h1; cases h1
    | some z' =>
      obtain ⟨z, h1, _, h3, h4, h5⟩ := new k z' h
      by_cases hk1 : z'.kind = 1
      · rw [Tr.up_dir h hk1, Tr.up_dir h1 (h4.trans hk1), h3, h5]
      · rw [Tr.up_no (T := T) fun w e => by rw [h] at e; cases e; exact hk1, Tr.up_no fun w e => by rw [h1] at e; cases e; rw [h4]; exact hk1]
  refine ⟨hk, ?_, fun k z h hz => ?_, fun k z h hz h1 hp => ?_, fun k z h hz => ?_, fun k z h hz => ?_, fun k z h => ?_⟩
  · obtain ⟨r, g1, g2, g3, g4⟩ := hw.root
    obtain ⟨z, h1, _, h3, h4, h5⟩ := new 1 r g1
    exact ⟨z, h1, h4.trans g2, h3.trans g3, h5.trans g4⟩
  · obtain ⟨z', h1, h2, h3, h4, h5⟩ := old k z h
    rw [h3]; exact hw.one k z' h1 (h4.symm.trans hz)
  · obtain ⟨z', g1, g2, g3, g4, g5⟩ := old k z h
    obtain ⟨u1, d, s, u2, u3⟩ := hw.upd k z' g1 (g4.symm.trans hz) h1 (by omega)
    rw [g5]
    obtain ⟨d', w1, w2, _⟩ := new _ d u2
    exact ⟨u1, d', s, w1, by rw [w2]; exact u3⟩
  · obtain ⟨z', g1, g2, g3, g4, g5⟩ := old k z h
    have := hw.emp k z' g1 (by rw [← g2]; exact hz)
    exact ⟨g4.trans this.1, by omega⟩
  · obtain ⟨z', g1, g2, g3, g4, g5⟩ := old k z h
    obtain ⟨l, hl⟩ := hw.chn k z' g1 (g4.symm.trans hz)
    exact ⟨l, Ab.congr (fun _ => True) (fun k _ => hup k) (fun _ _ _ => trivial) trivial hl⟩
  · by_cases e : k = n
    · subst e; rw [Tr.set_same] at h; cases h; exact ha
    · rw [Tr.set_other _ _ e] at h; exact hw.alv k z h
theorem Wf.hold (hw : Wf B T) (n : Int) : Wf (B + 1) (T.hold n) := by
  cases hx : T.nd n with
  | none => simp only [Tr.hold, hx]; exact hw.mono (Nat.le_succ B)
  | some x =>
    simp only [Tr.hold, hx]
    have hb := (hw.k.bnd n x hx).2.1
    exact (hw.mono (Nat.le_succ B)).node hx ((hw.k.mono (Nat.le_succ B)).node hx rfl rfl (by simp only; omega) rfl rfl rfl rfl) rfl rfl rfl rfl (.inr (by simp only; omega))
theorem Tr.loose_nd {n : Int} {x : Nd} (hx : T.nd n = some x) (hh : x.holds ≠ 0) (k : Int) : (T.loose n).nd k = if k = n then (if 0 < x.names ∨ 0 < x.holds - 1 then some { x with holds := x.holds - 1 } else none) else T.nd k := by
  simp only [Tr.loose, hx, if_neg hh, Tr.leave, Tr.set_same]
  split
  · by_cases e : k = n
    · subst e; rw [Tr.set_same, if_pos rfl]
    · rw [Tr.set_other _ _ e, if_neg e]
  · simp only [Tr.set]
    by_cases e : k = n
    · simp [e]
    · simp [e]
theorem Wf.loose (hw : Wf B T) (n : Int) : Wf B (T.loose n) := by
  cases hx : T.nd n with
  | none => simp only [Tr.loose, hx]; exact hw
  | some x =>
    by_cases hh : x.holds = 0
    · simp only [Tr.loose, hx, if_pos hh]; exact hw
    · have hb := (hw.k.bnd n x hx).2.1
      by_cases hd : 0 < x.names ∨ 0 < x.holds - 1
      · have e : T.loose n = T.set n (some { x with holds := x.holds - 1 }) := by
          simp only [Tr.loose, hx, if_neg hh, Tr.leave, Tr.set_same, if_pos hd]
        rw [e]
        exact hw.node hx (hw.k.node hx rfl rfl (by simp only; omega) rfl rfl rfl rfl) rfl rfl rfl rfl hd
      · have hnd := Tr.loose_nd hx hh
        simp only [if_neg hd] at hnd
        have hi : x.ins = [] := by
          by_cases e : x.ins = []
          · exact e
          · have := (hw.emp n x hx e).2; omega
        have hn0 : x.names = 0 := by omega
        have hn1 : n ≠ 1 := fun e => by
          obtain ⟨r, g1, _, g3, _⟩ := hw.root
          rw [e, g1] at hx; cases hx; omega
        have hmd : (T.loose n).made = T.made ∧ (T.loose n).most = T.most ∧ (T.loose n).pool = dropS T.pool x.file := by
          simp only [Tr.loose, hx, if_neg hh, Tr.leave, Tr.set_same, if_neg hd]
          exact ⟨rfl, rfl, rfl⟩
        have old : ∀ k z, (T.loose n).nd k = some z → k ≠ n ∧ T.nd k = some z := fun k z h => by
          rw [hnd] at h
          by_cases e : k = n
          · rw [if_pos e] at h; cases h
          · rw [if_neg e] at h; exact ⟨e, h⟩
        have hc0 : T.cntE n = 0 := by have := hw.k.num n x hx; rw [if_neg hn1] at this; omega
        have hne : ∀ k z, T.nd k = some z → ∀ s, (s, n) ∉ z.ins := fun k z h s hs => by
          have := cntE_pos hw.k h hs
          simp only at this; omega
        have hc : ∀ m, (T.loose n).cntE m = T.cntE m := fun m => by
          simp only [Tr.cntE, hmd.1]
          refine sumF_congr fun k _ => ?_
          rw [hnd]
          by_cases e : (k : Int) = n
          · rw [if_pos e, e, hx]; simp [cnt1, hi]
          · rw [if_neg e]
        have keep : ∀ k z, k ≠ n → T.nd k = some z → (T.loose n).nd k = some z := fun k z e h => by rw [hnd, if_neg e]; exact h
        have hup : ∀ k, k ≠ n → (T.loose n).up k = T.up k := fun k e => by
          simp only [Tr.up, Tr.dir, hnd, if_neg e]
        refine ⟨⟨fun k z h => by rw [hmd.1]; exact hw.k.key k z (old k z h).2, fun k z h => hw.k.srt k z (old k z h).2, fun k z h e he => ?_, by rw [hmd.1]; exact hw.k.made, fun k z h => hw.k.bnd k z (old k z h).2, fun k z h => hw.k.nam k z (old k z h).2, fun k z h => hw.k.txt k z (old k z h).2, fun k z h => hw.k.fil k z (old k z h).2, fun k z h => hw.k.knd k z (old k z h).2, fun k z h => hw.k.upw k z (old k z h).2, fun k z h => by rw [hc]; exact hw.k.num k z (old k z h).2, by rw [hmd.2.2, dropS_len]; exact hw.k.pol, by rw [hmd.2.1]; exact hw.k.mst⟩, ?_, fun k z h => hw.one k z (old k z h).2, fun k z h hk h1 hp => ?_, fun k z h => hw.emp k z (old k z h).2, fun k z h hk => ?_, fun k z h => hw.alv k z (old k z h).2⟩
        · obtain ⟨s, m⟩ := e
          obtain ⟨y, hy⟩ := hw.k.ent (old k z h).2 he
          have hmn : m ≠ n := fun e => hne k z (old k z h).2 s (by rw [← e]; exact he)
          simp only at hy ⊢
          rw [keep m y hmn hy]; rfl
        · obtain ⟨r, g1, g2⟩ := hw.root
          exact ⟨r, keep 1 r (Ne.symm hn1) g1, g2⟩
        · obtain ⟨u1, d, s, u2, u3⟩ := hw.upd k z (old k z h).2 hk h1 hp
          refine ⟨u1, d, s, keep _ d (fun e => ?_) u2, u3⟩
          rw [e, hx] at u2; cases u2; rw [hi] at u3; simp at u3
        · obtain ⟨l, hl⟩ := hw.chn k z (old k z h).2 hk
          refine ⟨l, Ab.congr (fun k => k ≠ n) hup (fun k hk _ e => ?_) (old k z h).1 hl⟩
          rcases hw.up_cases k with h1 | h1 | ⟨d, s, h1, h2⟩
          · omega
          · exact hk (h1.symm.trans e)
          · rw [e, hx] at h1; cases h1; rw [hi] at h2; simp at h2
/-- A name less, of what holds none. -/
theorem Wf.take (hw : Wf B T) {dir n : Int} {d x : Nd} {s : ByteArray} (hd : T.nd dir = some d) (hg : getE d.ins s = some n) (hx : T.nd n = some x) (hi : x.ins = []) : Wf B (T.take dir s) ∧ (∀ k, k ≠ n → (T.take dir s).up k = T.up k) ∧ ∀ k, k ≠ n → T.up k ≠ n := by
  have hdn : dir ≠ n := fun e => by subst e; exact hw.noself hd (getE_some hg)
  have hn1 : n ≠ 1 := fun e => by subst e; exact hw.noroot hd (getE_some hg)
  have hnd := Tr.take_nd hd hg hx hdn
  have hS := hw.k.srt dir d hd
  have hup : ∀ k, k ≠ n → (T.take dir s).up k = T.up k := fun k e => by
    simp only [Tr.up, Tr.dir, hnd, if_neg e]
    by_cases e2 : k = dir
    · rw [if_pos e2, e2, hd]
      by_cases hk : d.kind = 1 <;> simp [hk]
    · rw [if_neg e2]
  have hun : ∀ k, k ≠ n → T.up k ≠ n := fun k hk e => by
    rcases hw.up_cases k with h1 | h1 | ⟨d', s', h1, h2⟩
    · have := hw.k.key n x hx; omega
    · exact hk (h1.symm.trans e)
    · rw [e, hx] at h1; cases h1; rw [hi] at h2; simp at h2
  have old : ∀ k z, (T.take dir s).nd k = some z → (k = n ∧ z = { x with names := x.names - 1 } ∧ (0 < x.names - 1 ∨ 0 < x.holds)) ∨ (k ≠ n ∧ k = dir ∧ z = { d with ins := delE d.ins s }) ∨ (k ≠ n ∧ k ≠ dir ∧ T.nd k = some z) := fun k z h => by
    rw [hnd] at h
    by_cases e : k = n
    · rw [if_pos e] at h
      split at h
      · cases h; exact .inl ⟨e, rfl, by assumption⟩
      · cases h
    · rw [if_neg e] at h
      by_cases e2 : k = dir
      · rw [if_pos e2] at h; cases h; exact .inr (.inl ⟨e, e2, rfl⟩)
      · rw [if_neg e2] at h; exact .inr (.inr ⟨e, e2, h⟩)
  have keep : ∀ u z, u ≠ n → T.nd u = some z → ∃ z', (T.take dir s).nd u = some z' ∧ ∀ s' m, m ≠ n → (s', m) ∈ z.ins → (s', m) ∈ z'.ins := fun u z hu hz => by
    by_cases e2 : u = dir
    · subst e2
      rw [hd] at hz; cases hz
      refine ⟨_, by rw [hnd, if_neg hu, if_pos rfl], fun s' m hm h => (delE_mem hS hg).2 ⟨h, fun e => hm ?_⟩⟩
      have := hS.uniq h (getE_some hg) e
      simp at this; exact this.2
    · exact ⟨z, by rw [hnd, if_neg hu, if_neg e2]; exact hz, fun _ _ _ h => h⟩
  refine ⟨⟨hw.k.take hd hg hx hdn fun _ _ => hi, ?_, fun k z h hk => ?_, fun k z h hk h1 hp => ?_, fun k z h hz => ?_, fun k z h hk => ?_, fun k z h => ?_⟩, hup, hun⟩
  · obtain ⟨r, g1, g2, g3, g4⟩ := hw.root
    by_cases e : (1 : Int) = dir
    · rw [← e, g1] at hd; cases hd
      exact ⟨{ d with ins := delE d.ins s }, by rw [hnd, if_neg (Ne.symm hn1), if_pos e], g2, g3, g4⟩
    · exact ⟨r, by rw [hnd, if_neg (Ne.symm hn1), if_neg e]; exact g1, g2, g3, g4⟩
  · rcases old k z h with ⟨rfl, rfl, _⟩ | ⟨_, rfl, rfl⟩ | ⟨_, _, h⟩
    · have := hw.one k x hx hk; simp only; omega
    · exact hw.one k d hd hk
    · exact hw.one k z h hk
  · have key : ∀ z0, T.nd k = some z0 → z0.kind = 1 → 0 < z0.names → z0.up = z.up → k ≠ n → z.up ≠ k ∧ ∃ d0 s0, (T.take dir s).nd z.up = some d0 ∧ (s0, k) ∈ d0.ins := fun z0 h0 hk0 hp0 hu hkn => by
      obtain ⟨u1, d', s', u2, u3⟩ := hw.upd k z0 h0 hk0 h1 hp0
      rw [hu] at u1 u2
      have hun' : z.up ≠ n := fun e => by rw [e, hx] at u2; cases u2; rw [hi] at u3; simp at u3
      obtain ⟨z', w1, w2⟩ := keep _ d' hun' u2
      exact ⟨u1, z', s', w1, w2 s' k hkn u3⟩
    rcases old k z h with ⟨rfl, rfl, _⟩ | ⟨hkn, rfl, rfl⟩ | ⟨hkn, _, h⟩
    · have := hw.one k x hx hk
      simp only at hp
      omega
    · exact key d hd hk hp rfl hkn
    · exact key z h hk hp rfl hkn
  · rcases old k z h with ⟨rfl, rfl, _⟩ | ⟨_, rfl, rfl⟩ | ⟨_, _, h⟩
    · exact absurd hi hz
    · exact hw.emp k d hd (List.ne_nil_of_mem (getE_some hg))
    · exact hw.emp k z h hz
  · by_cases hkn : k = n
    · subst hkn
      rcases old k z h with ⟨_, rfl, hh⟩ | ⟨h', _⟩ | ⟨h', _⟩
      · have h1 := hw.one k x hx hk
        refine ⟨[], .inr ?_⟩
        rw [Tr.up_dir h hk, if_pos (by simp only; omega)]
      · exact absurd rfl h'
      · exact absurd rfl h'
    · have : ∃ z0, T.nd k = some z0 ∧ z0.kind = 1 := by
        rcases old k z h with ⟨e, _⟩ | ⟨_, rfl, rfl⟩ | ⟨_, _, h⟩
        · exact absurd e hkn
        · exact ⟨d, hd, hk⟩
        · exact ⟨z, h, hk⟩
      obtain ⟨z0, h0, hk0⟩ := this
      obtain ⟨l, hl⟩ := hw.chn k z0 h0 hk0
      exact ⟨l, Ab.congr (fun k => k ≠ n) hup (fun k hk _ => hun k hk) hkn hl⟩
  · rcases old k z h with ⟨rfl, rfl, hh⟩ | ⟨_, rfl, rfl⟩ | ⟨_, _, h⟩
    · exact hh
    · exact hw.alv k d hd
    · exact hw.alv k z h
end
end Go.Proofs.Ytlngeaacjbdmhaa
